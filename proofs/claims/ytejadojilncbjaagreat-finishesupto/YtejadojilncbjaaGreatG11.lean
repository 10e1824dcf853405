import Derived.Test.YtejadojilncbjaaGreatG08
namespace Go.Proofs.YtejadojilncbjaaGreat
open Go.RowKit
set_option linter.unusedVariables false
attribute [local go_sem ↓] Go.wp_at_zero Go.wp_at_succ
theorem wrapI (n : Int) (h1 : -1152921504606846976 ≤ n) (h2 : n ≤ 1152921504606846976) : IntKind.i64.wrap n = n := by rw [IntKind.wrap_i64]; omega
theorem tdiv8 (v : Int) (h1 : -1 ≤ v) (h2 : v ≤ 1125899906842624) : 0 ≤ v.tdiv 8 ∧ v.tdiv 8 ≤ 1125899906842624 := by
 by_cases h : 0 ≤ v
 ·rw [Int.tdiv_eq_ediv_of_nonneg h]; omega
 ·have : v = -1 := by omega
  subst this
  decide
theorem wrap64tdiv8 (v : Int) (h1 : -1 ≤ v) (h2 : v ≤ 1125899906842624) : wrap64 (v.tdiv 8) = v.tdiv 8 := by
 have := tdiv8 v h1 h2
 unfold wrap64
 omega
theorem mGet_over (E : Env) (x : TS) (st : Int) (n : Nat) (s : LS) (h : s.over = true) : mGet E x st (n + 1) s = (-1, s, x) := by
 rw [mGet]; simp [h]
theorem mGet_succ (E : Env) (x : TS) (st : Int) (n : Nat) (s : LS) (h : s.over = false) {v1 v2 : Int} {s1 s2 : LS} (e1 : mLoad E s (cStatus E E.me) = (v1, s1)) (e2 : mAsk E s1 ⟨3, cOwner E st, 0, E.me + 1⟩ = (v2, s2)) :
  mGet E x st (n + 1) s = (if s1.over = false ∧ 0 < v1.tmod 8 then (5, s1, x) else if s2.over then (-1, s2, x) else
      if v2 = 0 then
       (if (mLoad E s2 (cVersion E st)).2.over then (-1, (mLoad E s2 (cVersion E st)).2, { x with held := x.held ++ [st] }) else
           if x.valid < (mLoad E s2 (cVersion E st)).1 then mExtend E (mLoad E s2 (cVersion E st)).2 { x with held := x.held ++ [st] } else (0, (mLoad E s2 (cVersion E st)).2, { x with held := x.held ++ [st] }))
      else if s2.rank = 0 then (5, s2, x) else
       (if (mLoad E s2 (cStatus E (v2 - 1))).2.over = false ∧ 0 < (mLoad E s2 (cStatus E (v2 - 1))).1.tdiv 8 ∧ (mLoad E s2 (cStatus E (v2 - 1))).1.tdiv 8 < (mLoad E s2 (cStatus E (v2 - 1))).2.rank then
           (5, (mLoad E s2 (cStatus E (v2 - 1))).2, { x with way := v2 - 1 }) else
           mGet E x st n (if (mLoad E s2 (cStatus E (v2 - 1))).1.tmod 8 = 0 then (mAsk E (mLoad E s2 (cStatus E (v2 - 1))).2 ⟨3, cStatus E (v2 - 1), (mLoad E s2 (cStatus E (v2 - 1))).1, (mLoad E s2 (cStatus E (v2 - 1))).1 + E.me + 1⟩).2 else (mLoad E s2 (cStatus E (v2 - 1))).2))) := by
 rw [mGet]
 simp only [h, e1, e2]
 rfl
theorem LifeR.rank {E : Env} {H : Hd} {B p eb : Nat} {w : World} {s : LS} (h : LifeR E H B p eb w s) : w.cell? ⟨p, 19, none⟩ = some (.int .i64 s.rank) := by
 obtain ⟨la, lc, hb, _⟩ := h.life
 rw [hb.cell]; rfl
set_option maxRecDepth 100000 in
set_option maxHeartbeats 4000000 in
theorem get_any (E : Env) (hE : EnvOk E) (H : Hd) (B p eb xb : Nat) (s : LS) (x : TS) (st : Int) (w : World) (hL : LifeR E H B p eb w s) (hT : TryR B p eb xb w x) (hpos : s.pos ≤ E.seen.length) (hne : s.list ≠ []) (hlen : s.list.length ≤ 2 ^ 42)
  (hm : x.reads.length ≤ 2 ^ 40) (hm2 : x.held.length ≤ 2 ^ 40) (hst : ∀ e ∈ x.reads, -8 ≤ e.what ∧ e.what ≤ 8) (hs1 : -8 ≤ st) (hs2 : st ≤ 8) :
  Calls Tryz.prog 124 #[.pointer (some ⟨p, 0, none⟩), .pointer (some ⟨xb, 0, none⟩), .int .i64 st] w fun e w' =>
   e = .returned (.int .i64 (mGet E x st (loopFuel E s) s).1) ∧
   LifeR E H B p eb w' (mGet E x st (loopFuel E s) s).2.1 ∧ TryR B p eb xb w' (mGet E x st (loopFuel E s) s).2.2 ∧ Kp [88, 145, 63, 3] B p eb w w' := by
 have HE : Hid (EnvOk E) := hE
 have HL : Hid (LifeR E H B p eb w s) := hL
 have HT : Hid (TryR B p eb xb w x) := hT
 obtain ⟨i0, hi0, hz0, hz1, hz2⟩ := info_parts Tryz.info3
 have hme0 := hE.me0
 have hme3 := hE.me3
 have hwme : IntKind.i64.wrap (E.me + 1) = E.me + 1 := wrapI _ (by omega) (by omega)
 clear hE hL hT
 obtain ⟨R, HR⟩ : ∃ R, Hid (mGet E x st (loopFuel E s) s = R) := ⟨_, rfl⟩
 rw [show mGet E x st (loopFuel E s) s = R from HR.out]
 go_enter Tryz.func124, Tryz.ntmps124
 go_wp2
 go_loopg [7] (loopFuel E s) (fun n t wr => ∃ sk : LS, Hid (mGet E x st n sk = R) ∧ Hid (enough E sk n) ∧ Hid (LifeR E H B p eb wr sk) ∧ Hid (TryR B p eb xb wr x) ∧ Hid (Kp [88] B p eb w wr) ∧ sk.pos ≤ E.seen.length ∧ Hid (sk.list = s.list))
 case atStart => exact ⟨s, HR, enough_fuel E s, HL, HT, Kp.refl _ _ _ _ _, hpos, rfl⟩
 case round =>
  obtain ⟨sk, HM, HEn, HL1, HT1, HK1, hpk, HLi⟩ := hrel
  obtain ⟨n, rfl⟩ : ∃ n, gk = n + 1 := ⟨gk - 1, by have := HEn.out.1; omega⟩
  have hov := (HL1.out).over
  cases hso : sk.over with
  | true =>
   have HF : Hid (R = (-1, sk, x)) := by show _ = _; rw [← HM.out, mGet_over E x st n sk hso]
   go_wp2
   go_ret
   exact ⟨by rw [HF.out]; rfl, by rw [HF.out]; exact HL1.out, by rw [HF.out]; exact HT1.out, (HK1.out).wide (by simp)⟩
  | false =>
   have HS0 : Hid (HeadAt E H p wr.drew) := (HL1.out).drew.head
   go_wp2_with fail
   go_region_held3 (fun w' => HeadAt E H p w')
    (first | exact HS2.out | exact HS1.out | exact HS0.out)
    (first
        | (go_at_call 88; refine (status_at E HE.out H B p eb xb _ _ _ _ (HL1.out).drew (HT1.out).drew (by omega) (by omega)).mono ?_; rintro e w1 ⟨rfl, hL2, hT2, hK2⟩; have HL2 : Hid (LifeR E H B p eb w1 sk) := hL2; have HT2 : Hid (TryR B p eb xb w1 x) := hT2; have HK2 : Hid (Kp [] B p eb wr.drew w1) := hK2; clear hL2 hT2 hK2;
           have HS1 : Hid (HeadAt E H p w1) := (HL2.out).head)
        | (go_at_call 82; refine (load_at E HE.out H B p eb xb _ _ _ _ HL2.out HT2.out hpk).mono ?_; rintro e w2 ⟨rfl, hL3, hT3, hK3⟩; have HL3 : Hid (LifeR E H B p eb w2 (mLoad E sk (cStatus E E.me)).2) := hL3; have HT3 : Hid (TryR B p eb xb w2 x) := hT3; have HK3 : Hid (Kp [88] B p eb w w2) := (HK1.out).trans (((Kp.below (Below.refl _ _).drew (HL1.out).stat.size).trans (HK2.out).up).trans hK3); clear hL3 hT3 hK3;
           have HS2 : Hid (HeadAt E H p w2) := (HL3.out).head))
   clear HS0 HS1 HS2 HL2 HT2 HK2 hov
   have HA1 : Hid ((mLoad E sk (cStatus E E.me)).2.over = true ∨ ((mLoad E sk (cStatus E E.me)).2.over = false ∧ (mLoad E sk (cStatus E E.me)).2.pos = sk.pos + 1)) := mAsk_adv E sk _ hso hpk
   have hp1 : (mLoad E sk (cStatus E E.me)).2.pos ≤ E.seen.length := (mAsk_pos E sk _ hpk).2
   have HLi1 : Hid ((mLoad E sk (cStatus E E.me)).2.list = s.list) := (mAsk_list E sk _).trans HLi.out
   have hval1 : -1 ≤ (mLoad E sk (cStatus E E.me)).1 ∧ (mLoad E sk (cStatus E E.me)).1 ≤ 1125899906842624 := mAsk_val E HE.out sk _
   generalize hq1 : mLoad E sk (cStatus E E.me) = q1 at *
   obtain ⟨v1, s1⟩ := q1
   have HQ1 : Hid (mLoad E sk (cStatus E E.me) = (v1, s1)) := hq1
   have HSO : Hid (sk.over = false) := hso
   have HVal1 : Hid (-1 ≤ v1 ∧ v1 ≤ 1125899906842624) := hval1
   clear hq1 hso hval1
   have hov := (HL3.out).over
   simp only at hov hp1
   by_cases hmk : s1.over = false ∧ 0 < v1.tmod 8
   ·obtain ⟨hm1, hm8⟩ := hmk
    have HF : Hid (R = (5, s1, x)) := by
     show _ = _
     rw [← HM.out, mGet_succ E x st n sk HSO.out HQ1.out rfl]
     exact if_pos ⟨hm1, hm8⟩
    go_wp2
    go_ret
    exact ⟨by rw [HF.out]; rfl, by rw [HF.out]; exact HL3.out, by rw [HF.out]; exact HT3.out, (HK3.out).wide (by simp)⟩
   ·have HMK : Hid (¬ (s1.over = false ∧ 0 < v1.tmod 8)) := hmk
    have HL3' : Hid (LifeR E H B p eb w2 s1) := HL3
    clear HL3
    have HS0 : Hid (HeadAt E H p w2.drew) := (HL3'.out).drew.head
    have htest : (s1.over = true) ∨ (s1.over = false ∧ ¬ 0 < v1.tmod 8) := by
     cases h : s1.over with
     | true => exact Or.inl rfl
     | false => exact Or.inr ⟨rfl, fun h2 => HMK.out ⟨h, h2⟩⟩
    clear hmk
    rcases htest with ho1 | ⟨ho1, hm8⟩
    all_goals
     have HO1 : Hid (s1.over = _) := ho1
     go_wp2_with fail
     try clear hm8
     clear hov
     go_region_held3 (fun w' => HeadAt E H p w')
      (first | exact HS2.out | exact HS1.out | exact HS0.out)
      (first
          | (go_at_call 100; refine (owner_at E HE.out H B p eb xb _ _ _ _ (HL3'.out).drew (HT3.out).drew (by omega) (by omega)).mono ?_; rintro e w3 ⟨rfl, hL2, hT2, hK2⟩; have HL4 : Hid (LifeR E H B p eb w3 s1) := hL2; have HT4 : Hid (TryR B p eb xb w3 x) := hT2; have HK4 : Hid (Kp [] B p eb w2.drew w3) := hK2; clear hL2 hT2 hK2;
             have HS1 : Hid (HeadAt E H p w3) := (HL4.out).head)
          | (go_at_call 78; refine (ask_at E HE.out H B p eb xb _ _ _ _ _ _ _ HL4.out HT4.out hp1).mono ?_; rintro e w4 ⟨rfl, hL3, hT3, hK3⟩; have HL5 : Hid (LifeR E H B p eb w4 (mAsk E s1 ⟨3, cOwner E st, 0, E.me + 1⟩).2) := hL3; have HT5 : Hid (TryR B p eb xb w4 x) := hT3; have HK5 : Hid (Kp [88] B p eb w w4) := (HK3.out).trans (((Kp.below (Below.refl _ _).drew (HL3'.out).stat.size).trans (HK4.out).up).trans hK3); clear hL3 hT3 hK3;
             have HS2 : Hid (HeadAt E H p w4) := (HL5.out).head))
     clear HS0 HS1 HS2 HL4 HT4 HK4
     have hp2 : (mAsk E s1 ⟨3, cOwner E st, 0, E.me + 1⟩).2.pos ≤ E.seen.length := (mAsk_pos E s1 _ hp1).2
     have HP2 : Hid (s1.pos ≤ (mAsk E s1 ⟨3, cOwner E st, 0, E.me + 1⟩).2.pos) := (mAsk_pos E s1 _ hp1).1
     have HO2 : Hid (s1.over = true → (mAsk E s1 ⟨3, cOwner E st, 0, E.me + 1⟩).2 = s1) := fun h => by rw [mAsk_dead h]
     have HLi2 : Hid ((mAsk E s1 ⟨3, cOwner E st, 0, E.me + 1⟩).2.list = s.list) := (mAsk_list E s1 _).trans HLi1.out
     have hval2 : -1 ≤ (mAsk E s1 ⟨3, cOwner E st, 0, E.me + 1⟩).1 ∧ (mAsk E s1 ⟨3, cOwner E st, 0, E.me + 1⟩).1 ≤ 1125899906842624 := mAsk_val E HE.out s1 _
     generalize hq2 : mAsk E s1 ⟨3, cOwner E st, 0, E.me + 1⟩ = q2 at *
     obtain ⟨v2, s2⟩ := q2
     have HQ2 : Hid (mAsk E s1 ⟨3, cOwner E st, 0, E.me + 1⟩ = (v2, s2)) := hq2
     clear hq2
     have HSucc : Hid (R = _) := (HM.out).symm.trans ((mGet_succ E x st n sk HSO.out HQ1.out HQ2.out).trans (if_neg HMK.out))
     have hov := (HL5.out).over
     simp only at hov hp2 hval2
     clear ho1
     cases hs2o : s2.over with
     | true =>
      have HF : Hid (R = (-1, s2, x)) := (HSucc.out).trans (if_pos hs2o)
      clear HSucc
      go_wp2
      go_ret
      exact ⟨by rw [HF.out]; rfl, by rw [HF.out]; exact HL5.out, by rw [HF.out]; exact HT5.out, (HK5.out).wide (by simp)⟩
     | false =>
      have HSucc2 : Hid (R = _) := (HSucc.out).trans (if_neg (by simp [hs2o]))
      clear HSucc
      have HAdv : Hid (s2.over = true ∨ sk.pos < s2.pos) := by
       right
       have h2 : s1.pos ≤ s2.pos := HP2.out
       rcases HA1.out with h | h
       ·exfalso
        have e2 : s2 = s1 := HO2.out h
        rw [e2] at hs2o
        have h' : s1.over = true := h
        rw [h'] at hs2o
        cases hs2o
       ·have : s1.pos = sk.pos + 1 := h.2
        omega
      have HL5' : Hid (LifeR E H B p eb w4 s2) := HL5
      clear HL5
      obtain ⟨hv2a, hv2b⟩ := hval2
      by_cases hu0 : v2 = 0
      ·have HSucc3 : Hid (R = _) := (HSucc2.out).trans (if_pos hu0)
       clear HSucc2
       have hbe : (v2 == 0) = true := by simp [hu0]
       obtain ⟨ca, cc, ra, rc, wa, wc, ha, hc, hb, hcd, hcf, g3, g4, g5, g6⟩ := (HT5.out).blk
       have hx10 : w4.cell? ⟨xb, 10, none⟩ = some (.slice ha x.held.length hc) := by rw [hb.cell]; rfl
       have hxlt := hb.lt
       have hplt : p < w4.heap.size := Nat.lt_of_lt_of_le (HL5'.out).pB (HL5'.out).stat.size
       have HBl : Hid (Blk w4 xb 145 (tryArr ca cc ra rc wa wc ha hc x)) := hb
       have HCd : Hid (CodeIn w4 B ca x.code) := hcd
       have HCf : Hid _ := hcf
       have H3 : Hid (w4.ownsRow B 160 2 (.slice ra x.reads.length rc) x.reads.length (x.reads.flatMap entCells)) := g3
       have H4 : Hid (w4.ownsRow B 160 2 (.slice wa x.writes.length wc) x.writes.length (x.writes.flatMap entCells)) := g4
       have H5 : Hid (w4.ownsRow B 3 1 (.slice ha x.held.length hc) x.held.length (x.held.map (.int .i64 ·))) := g5
       have H6 : Hid (∀ k, (Value.slice ra x.reads.length rc).ownBlock = some k → (Value.slice wa x.writes.length wc).ownBlock ≠ some k) := g6
       have hBs := (HL5'.out).stat.size
       have hxne : (Value.slice ha x.held.length hc).ownBlock ≠ some xb := fun e => by
        rcases g5.2 with ⟨h1, _⟩ | ⟨g', c', cur', h1, _, h2, _⟩
        ·rw [h1] at e; simp [Value.ownBlock] at e
        ·rw [h1] at e; simp [Value.ownBlock] at e; subst e
         exact Blk.ne (show Blk w4 g' 3 cur' from h2) hb (by decide) rfl
       have hpb : (Value.slice ha x.held.length hc).ownBlock ≠ some p := fun e => by
        have := (g5.lt p e).1
        have := (HL5'.out).pB
        omega
       clear hb hcd hcf g3 g4 g5 g6
       have hfx : w4.frozen? ⟨xb, 10, none⟩ = false := (HBl.out).frozen _
       go_wp2_with
        (at_builtin;
            refine wpList_append_lies _ (by rfl) _ _ _ (by rfl) B 3 i0 _ 1 8 Tryz.underlying24 hi0 hz0 hz1 hz2 rfl (by omega) (.slice ha x.held.length hc) x.held.length (x.held.map (Value.int .i64 ·)) (by rfl) ((H5.out).alloc _)
             ⟨w4.heap.size, 0, none⟩ 1 1 [.int .i64 st] (by rfl) (by rfl) (World.news_of_block (cs := #[.int .i64 st]) (t := 3) (fr := (0, 0)) (heap_alloc_new w4 _)) (by simp [Value.oneCell'])
             (by omega) (by unfold maxLen; omega) (by omega) (by simp; omega) (w4.heap.size + 1) (by simp) ?_;
            intro gg cap w7 hown1 hgrow hat hlt;
            have hd10 : w7.cell? ⟨xb, 10, none⟩ = some (.slice ha x.held.length hc) := (by rw [hgrow.cell_far _ (by simp; omega) (Ne.symm hxne)]; simpa [World.cell?_alloc_lt, hxlt] using hx10);
            have he10 : w7.frozen? ⟨xb, 10, none⟩ = false := (by rw [hgrow.frozen_far _ (by simp; omega) (Ne.symm hxne)]; simpa [World.frozen?_alloc_past, hxlt] using hfx);
            have hTK := tryAddHeld (p := p) (eb := eb) (st := st) HBl.out HCd.out HCf.out H3.out H4.out H5.out H6.out hBs (HT5.out).xB (HT5.out).regs ((Below.refl _ _).alloc (Nat.le_refl _) _) hgrow hown1;
            have HLg : Hid (LifeR E H B p eb (w7.setCell ⟨xb, 10, none⟩ (.slice (some ⟨gg, 0, none⟩) (x.held.length + 1) cap)) s2) := (HL5'.out).keep hTK.2 (by simp) (by simp) (by simp) (by simp);
            have HTg : Hid (TryR B p eb xb (w7.setCell ⟨xb, 10, none⟩ (.slice (some ⟨gg, 0, none⟩) (x.held.length + 1) cap)) { x with held := x.held ++ [st] }) := hTK.1;
            have HKg : Hid (Kp [145, 3] B p eb w4 (w7.setCell ⟨xb, 10, none⟩ (.slice (some ⟨gg, 0, none⟩) (x.held.length + 1) cap))) := hTK.2;
            have hhd := (HLg.out).head;
            clear hTK hown1 hgrow hat)
       refine (version_at E HE.out H B p eb xb _ _ _ _ HLg.out HTg.out (by omega) (by omega)).mono ?_
       rintro e w8 ⟨rfl, hLa, hTa, hKa⟩
       clear hhd hov
       go_wp2_with fail
       refine (load_at E HE.out H B p eb xb _ _ _ _ hLa hTa hp2).mono ?_
       rintro e w9 ⟨rfl, hLb, hTb, hKb⟩
       have HK9 : Hid (Kp [88, 145, 3] B p eb w w9) := (((HK5.out).wide (by simp)).trans ((HKg.out).wide (by simp))).trans (hKa.up.trans (hKb.wide (by simp)))
       have hp9 : (mLoad E s2 (cVersion E st)).2.pos ≤ E.seen.length := (mAsk_pos E s2 _ hp2).2
       have HLi9 : Hid ((mLoad E s2 (cVersion E st)).2.list = s.list) := (mAsk_list E s2 _).trans HLi2.out
       clear hLa hTa hKa hKb
       generalize hq3 : mLoad E s2 (cVersion E st) = q3 at *
       obtain ⟨v3, s3⟩ := q3
       clear hq3
       have hov := hLb.over
       obtain ⟨_, _, _, _, _, _, _, _, hxc, _⟩ := hTb.cells
       have hx7 : w9.cell? ⟨xb, 7, none⟩ = some (.int .i64 x.valid) := by rw [hxc]; rfl
       have HLb : Hid (LifeR E H B p eb w9 s3) := hLb
       have HTb : Hid (TryR B p eb xb w9 { x with held := x.held ++ [st] }) := hTb
       clear hLb hTb hxc
       simp only at hov hp9
       cases hs3o : s3.over with
       | true =>
        have HF : Hid (R = (-1, s3, { x with held := x.held ++ [st] })) := (HSucc3.out).trans (if_pos hs3o)
        clear HSucc3
        go_wp2
        go_ret
        exact ⟨by rw [HF.out]; rfl, by rw [HF.out]; exact HLb.out, by rw [HF.out]; exact HTb.out, (HK9.out).wide (by simp)⟩
       | false =>
        have HSucc4 : Hid (R = _) := (HSucc3.out).trans (if_neg (by simp [hs3o]))
        clear HSucc3
        by_cases hval : x.valid < v3
        ·have HF : Hid (R = mExtend E s3 { x with held := x.held ++ [st] }) := (HSucc4.out).trans (if_pos hval)
         clear HSucc4
         go_wp2_with fail
         refine (extend_any E HE.out H B p eb xb s3 { x with held := x.held ++ [st] } _ HLb.out HTb.out hp9 (by rw [show s3.list = s.list from HLi9.out]; exact hne) (by rw [show s3.list = s.list from HLi9.out]; exact hlen) (by show x.reads.length ≤ _; omega) (by simp; omega) hst).mono ?_
         rintro e w10 ⟨rfl, hLh, hTh, hKh⟩
         rw [← show R = mExtend E s3 { x with held := x.held ++ [st] } from HF.out] at hLh hTh ⊢
         have HLh : Hid (LifeR E H B p eb w10 R.2.1) := hLh
         have HTh : Hid (TryR B p eb xb w10 R.2.2) := hTh
         have HKh : Hid (Kp [88, 145, 63] B p eb _ w10) := hKh
         clear hLh hTh hKh
         go_wp2_with fail
         go_ret
         exact ⟨rfl, HLh.out, HTh.out, ((HK9.out).wide (by simp)).trans ((HKh.out).wide (by simp))⟩
        ·have HF : Hid (R = (0, s3, { x with held := x.held ++ [st] })) := (HSucc4.out).trans (if_neg hval)
         clear HSucc4
         go_wp2
         go_ret
         exact ⟨by rw [HF.out]; rfl, by rw [HF.out]; exact HLb.out, by rw [HF.out]; exact HTb.out, (HK9.out).wide (by simp)⟩
      ·have HSucc3 : Hid (R = _) := (HSucc2.out).trans (if_neg hu0)
       clear HSucc2
       have hbe : (v2 == 0) = false := by simpa using hu0
       clear hu0
       have hrk := (HL5'.out).rank
       by_cases hr0 : s2.rank = 0
       ·have HF : Hid (R = (5, s2, x)) := (HSucc3.out).trans (if_pos hr0)
        clear HSucc3
        have hbr : (s2.rank == 0) = true := by simp [hr0]
        have HR0 : Hid (s2.rank = 0) := hr0
        clear hr0
        go_wp2
        go_ret
        exact ⟨by rw [HF.out]; rfl, by rw [HF.out]; exact HL5'.out, by rw [HF.out]; exact HT5.out, (HK5.out).wide (by simp)⟩
       ·have HSucc4 : Hid (R = _) := (HSucc3.out).trans (if_neg hr0)
        clear HSucc3
        have hbr : (s2.rank == 0) = false := by simpa using hr0
        clear hr0
        have hhd := (HL5'.out).head
        go_wp2_with fail
        refine (status_at E HE.out H B p eb xb _ _ _ _ HL5'.out HT5.out (by omega) (by omega)).mono ?_
        rintro e w5 ⟨rfl, hLa, hTa, hKa⟩
        clear hhd hov hrk
        go_wp2_with fail
        refine (load_at E HE.out H B p eb xb _ _ _ _ hLa hTa hp2).mono ?_
        rintro e w6 ⟨rfl, hLb, hTb, hKb⟩
        have HK6 : Hid (Kp [88] B p eb w w6) := ((HK5.out).trans hKa.up).trans hKb
        have hp3 : (mLoad E s2 (cStatus E (v2 - 1))).2.pos ≤ E.seen.length := (mAsk_pos E s2 _ hp2).2
        have HP3 : Hid (s2.pos ≤ (mLoad E s2 (cStatus E (v2 - 1))).2.pos) := (mAsk_pos E s2 _ hp2).1
        have HLi3 : Hid ((mLoad E s2 (cStatus E (v2 - 1))).2.list = s.list) := (mAsk_list E s2 _).trans HLi2.out
        have hval3 : -1 ≤ (mLoad E s2 (cStatus E (v2 - 1))).1 ∧ (mLoad E s2 (cStatus E (v2 - 1))).1 ≤ 1125899906842624 := mAsk_val E HE.out s2 _
        clear hLa hTa hKa hKb
        generalize hq3 : mLoad E s2 (cStatus E (v2 - 1)) = q3 at *
        obtain ⟨v3, s3⟩ := q3
        clear hq3
        have HLb : Hid (LifeR E H B p eb w6 s3) := hLb
        have HTb : Hid (TryR B p eb xb w6 x) := hTb
        have hov := hLb.over
        have hrk := hLb.rank
        clear hLb hTb
        simp only at hov hp3 hval3
        have HVal3 : Hid (-1 ≤ v3 ∧ v3 ≤ 1125899906842624) := hval3
        have hwq : wrap64 (v3.tdiv 8) = v3.tdiv 8 := wrap64tdiv8 v3 hval3.1 hval3.2
        clear hval3
        by_cases hway : s3.over = false ∧ 0 < v3.tdiv 8 ∧ v3.tdiv 8 < s3.rank
        ·have HF : Hid (R = (5, s3, { x with way := v2 - 1 })) := (HSucc4.out).trans (if_pos hway)
         clear HSucc4
         obtain ⟨hw1, hw2, hw3⟩ := hway
         obtain ⟨_, _, _, _, _, _, _, _, hxc, hxf⟩ := (HTb.out).cells
         have hx12 : w6.cell? ⟨xb, 12, none⟩ = some (.int .i64 x.way) := by rw [hxc]; rfl
         have hf12 := hxf 12
         clear hxc hxf
         go_wp2
         go_ret
         obtain ⟨hTc, hKc⟩ := (HTb.out).set (x' := { x with way := v2 - 1 }) (i := 12) (v := .int .i64 (v2 - 1)) (HLb.out).stat.size rfl rfl rfl rfl (HTb.out).regs (fun _ _ _ _ _ _ _ _ => rfl)
         exact ⟨by rw [HF.out]; rfl, by rw [HF.out]; exact (HLb.out).keep hKc (by simp) (by simp) (by simp) (by simp), by rw [HF.out]; exact hTc, ((HK6.out).wide (by simp)).trans (hKc.wide (by simp))⟩
        ·have HSucc5 : Hid (R = _) := (HSucc4.out).trans (if_neg hway)
         clear HSucc4
         have HWay : Hid (¬ (s3.over = false ∧ 0 < v3.tdiv 8 ∧ v3.tdiv 8 < s3.rank)) := hway
         clear hway
         have hcase : s3.over = true ∨ (s3.over = false ∧ ¬ 0 < v3.tdiv 8) ∨ (s3.over = false ∧ 0 < v3.tdiv 8 ∧ ¬ v3.tdiv 8 < s3.rank) := by
          cases h : s3.over with
          | true => exact Or.inl rfl
          | false =>
           by_cases h1 : 0 < v3.tdiv 8
           ·exact Or.inr (Or.inr ⟨rfl, h1, fun h2 => HWay.out ⟨h, h1, h2⟩⟩)
           ·exact Or.inr (Or.inl ⟨rfl, h1⟩)
         have HEn3 : Hid (∀ s4 : LS, (s3.over = true → s4 = s3) → s3.pos ≤ s4.pos → s4.pos ≤ E.seen.length → enough E s4 n) := fun s4 h1 h2 h3 => by
          refine enough_next HEn.out HSO.out ?_ h3
          right
          have h4 : s2.pos ≤ s3.pos := HP3.out
          rcases HAdv.out with h5 | h5
          ·rw [hs2o] at h5; cases h5
          ·omega
         by_cases hmod : v3.tmod 8 = 0
         ·have HF : Hid (mGet E x st n (mAsk E s3 ⟨3, cStatus E (v2 - 1), v3, v3 + E.me + 1⟩).2 = R) := by
           refine Eq.symm ((HSucc5.out).trans ?_)
           exact congrArg (mGet E x st n) (if_pos hmod)
          clear HSucc5
          have hbm : (v3.tmod 8 == 0) = true := by simp [hmod]
          clear hmod
          have HS0 : Hid (HeadAt E H p w6.drew) := (HLb.out).drew.head
          obtain ⟨hv3a, hv3b⟩ := HVal3.out
          have hw1 : IntKind.i64.wrap (v2 - 1) = v2 - 1 := wrapI _ (by omega) (by omega)
          have hw2 : IntKind.i64.wrap (v3 + E.me) = v3 + E.me := wrapI _ (by omega) (by omega)
          have hw3 : IntKind.i64.wrap (v3 + E.me + 1) = v3 + E.me + 1 := wrapI _ (by omega) (by omega)
          rcases hcase with ho | ⟨ho, hq⟩ | ⟨ho, hq, hq2⟩
          all_goals
           clear hv3a hv3b
           go_wp2_with fail
           go_region_held3 (fun w' => HeadAt E H p w')
            (first | exact HS2.out | exact HS1.out | exact HS0.out)
            (first
                | (go_at_call 88; refine (status_at E HE.out H B p eb xb _ _ _ _ (HLb.out).drew (HTb.out).drew (by omega) (by omega)).mono ?_; rintro e w7 ⟨rfl, hL2, hT2, hK2⟩; have HL6 : Hid (LifeR E H B p eb w7 s3) := hL2; have HT6 : Hid (TryR B p eb xb w7 x) := hT2; have HK7 : Hid (Kp [] B p eb w6.drew w7) := hK2; clear hL2 hT2 hK2;
                   have HS1 : Hid (HeadAt E H p w7) := (HL6.out).head)
                | (go_at_call 78; refine (ask_at E HE.out H B p eb xb _ _ _ _ _ _ _ HL6.out HT6.out hp3).mono ?_; rintro e w8 ⟨rfl, hL3, hT3, hK3⟩; have HL8 : Hid (LifeR E H B p eb w8 (mAsk E s3 ⟨3, cStatus E (v2 - 1), v3, v3 + E.me + 1⟩).2) := hL3; have HT8 : Hid (TryR B p eb xb w8 x) := hT3; have HK8 : Hid (Kp [88] B p eb w w8) := (HK6.out).trans (((Kp.below (Below.refl _ _).drew (HLb.out).stat.size).trans (HK7.out).up).trans hK3); clear hL3 hT3 hK3;
                   have HS2 : Hid (HeadAt E H p w8) := (HL8.out).head))
           have hp4 : (mAsk E s3 ⟨3, cStatus E (v2 - 1), v3, v3 + E.me + 1⟩).2.pos ≤ E.seen.length := (mAsk_pos E s3 _ hp3).2
           have HEn4 : Hid (enough E (mAsk E s3 ⟨3, cStatus E (v2 - 1), v3, v3 + E.me + 1⟩).2 n) := HEn3.out _ (fun h => by rw [mAsk_dead h]) (mAsk_pos E s3 _ hp3).1 hp4
           have HLi4 : Hid ((mAsk E s3 ⟨3, cStatus E (v2 - 1), v3, v3 + E.me + 1⟩).2.list = s.list) := (mAsk_list E s3 _).trans HLi3.out
           generalize mAsk E s3 ⟨3, cStatus E (v2 - 1), v3, v3 + E.me + 1⟩ = q4 at *
           go_wp2
           go_roundg n
           case rel => exact ⟨q4.2, HF, HEn4, HL8, HT8, HK8, hp4, HLi4⟩
           case measure => omega
         ·have HF : Hid (mGet E x st n s3 = R) := by
           refine Eq.symm ((HSucc5.out).trans ?_)
           exact congrArg (mGet E x st n) (if_neg hmod)
          clear HSucc5
          have hbm : (v3.tmod 8 == 0) = false := by simpa using hmod
          clear hmod
          have HEn4 : Hid (enough E s3 n) := HEn3.out _ (fun h => rfl) (Nat.le_refl _) hp3
          rcases hcase with ho | ⟨ho, hq⟩ | ⟨ho, hq, hq2⟩
          all_goals
           go_wp2
           go_roundg n
           case rel => exact ⟨s3, HF, HEn4, HLb, HTb, HK6, hp3, HLi3⟩
           case measure => omega
end Go.Proofs.YtejadojilncbjaaGreat
