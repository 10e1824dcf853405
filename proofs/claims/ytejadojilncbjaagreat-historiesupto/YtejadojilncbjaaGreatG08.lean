import Derived.Test.YtejadojilncbjaaGreatG07
import Derived.Deep.LoopGhost
import Derived.Test.YtejadojilncbjaaGreatG06
import Derived.BigRegion
import Derived.Deep.RegionLaw
namespace Go.Proofs.YtejadojilncbjaaGreat
open Go.RowKit
set_option linter.unusedVariables false
theorem mStands_succ (E : Env) (x : TS) (a st : Int) (n : Nat) (s : LS) (h : s.over = false) {v1 v2 v3 : Int} {s1 s2 s3 : LS} (e1 : mLoad E s (cVersion E st) = (v1, s1)) (e2 : mLoad E s1 (cWord E a) = (v2, s2)) (e3 : mLoad E s2 (cVersion E st) = (v3, s3)) :
  mStands E x a st (n + 1) s = (if v1 = -1 then mStands E x a st n s1 else if s3.over = true ∨ v3 ≠ v1 then mStands E x a st n s3 else
      let x1 := if (entIdx x.reads st).isSome then x else { x with reads := x.reads ++ [⟨st, v1⟩] }
      if v1 ≤ x1.valid then (v2, 0, s3, x1) else (v2, (mExtend E s3 x1).1, (mExtend E s3 x1).2.1, (mExtend E s3 x1).2.2)) := by
 rw [mStands]
 simp only [h, e1, e2, e3]
 rfl
theorem mStands_over (E : Env) (x : TS) (a st : Int) (n : Nat) (s : LS) (h : s.over = true) : mStands E x a st (n + 1) s = (0, -1, s, x) := by
 rw [mStands]; simp [h]
set_option maxRecDepth 100000 in
set_option maxHeartbeats 4000000 in
theorem stands_any (E : Env) (hE : EnvOk E) (H : Hd) (B p eb xb : Nat) (s : LS) (x : TS) (a st : Int) (w : World) (hL : LifeR E H B p eb w s) (hT : TryR B p eb xb w x) (hpos : s.pos ≤ E.seen.length) (hne : s.list ≠ []) (hlen : s.list.length ≤ 2 ^ 42)
  (hm : x.reads.length ≤ 2 ^ 40) (hm2 : x.held.length ≤ 2 ^ 45) (hst : ∀ e ∈ x.reads, -8 ≤ e.what ∧ e.what ≤ 8) (hs1 : -8 ≤ st) (hs2 : st ≤ 8) (ha1 : -70000 ≤ a) (ha2 : a ≤ 1125899906842624) :
  Calls Tryz.prog 122 #[.pointer (some ⟨p, 0, none⟩), .pointer (some ⟨xb, 0, none⟩), .int .i64 a, .int .i64 st] w fun e w' =>
   e = .returned (.tuple #[.int .i64 (mStands E x a st (loopFuel E s) s).1, .int .i64 (mStands E x a st (loopFuel E s) s).2.1]) ∧
   LifeR E H B p eb w' (mStands E x a st (loopFuel E s) s).2.2.1 ∧ TryR B p eb xb w' (mStands E x a st (loopFuel E s) s).2.2.2 ∧ Kp [88, 145, 63, 160] B p eb w w' := by
 have HE : Hid (EnvOk E) := hE
 have HL : Hid (LifeR E H B p eb w s) := hL
 have HT : Hid (TryR B p eb xb w x) := hT
 obtain ⟨i0, hi0, hz0, hz1, hz2⟩ := info_parts Tryz.info160
 clear hE hL hT
 obtain ⟨R, HR⟩ : ∃ R, Hid (mStands E x a st (loopFuel E s) s = R) := ⟨_, rfl⟩
 rw [show mStands E x a st (loopFuel E s) s = R from HR.out]
 go_enter Tryz.func122, Tryz.ntmps122
 go_wp2
 go_loopg [10] (loopFuel E s) (fun n t wr => ∃ sk : LS, Hid (mStands E x a st n sk = R) ∧ Hid (enough E sk n) ∧ Hid (LifeR E H B p eb wr sk) ∧ Hid (TryR B p eb xb wr x) ∧ Hid (Kp [88] B p eb w wr) ∧ sk.pos ≤ E.seen.length ∧ Hid (sk.list = s.list))
 case atStart => exact ⟨s, HR, enough_fuel E s, HL, HT, Kp.refl _ _ _ _ _, hpos, rfl⟩
 case round =>
  obtain ⟨sk, HM, HEn, HL1, HT1, HK1, hpk, HLi⟩ := hrel
  obtain ⟨n, rfl⟩ : ∃ n, gk = n + 1 := ⟨gk - 1, by have := HEn.out.1; omega⟩
  have hov := (HL1.out).over
  cases hso : sk.over with
  | true =>
   have HF : Hid (R = (0, -1, sk, x)) := by show _ = _; rw [← HM.out, mStands_over E x a st n sk hso]
   go_wp2
   go_ret2
   exact ⟨by rw [HF.out]; rfl, by rw [HF.out]; exact HL1.out, by rw [HF.out]; exact HT1.out, (HK1.out).wide (by simp)⟩
  | false =>
   have hhd := (HL1.out).head
   go_wp2_with fail
   refine (version_at E HE.out H B p eb xb _ _ _ _ HL1.out HT1.out (by omega) (by omega)).mono ?_
   rintro e w1 ⟨rfl, hLa, hTa, hKa⟩
   clear hhd hov
   go_wp2_with fail
   refine (load_at E HE.out H B p eb xb _ _ _ _ hLa hTa hpk).mono ?_
   rintro e w2 ⟨rfl, hLb, hTb, hKb⟩
   have HKb : Hid (Kp [88] B p eb w w2) := ((HK1.out).trans hKa.up).trans hKb
   have hadv1 := mAsk_adv E sk ⟨1, cVersion E st, 0, 0⟩ hso hpk
   have hp1 := (mAsk_pos E sk ⟨1, cVersion E st, 0, 0⟩ hpk).2
   have HLi1 : Hid ((mAsk E sk ⟨1, cVersion E st, 0, 0⟩).2.list = s.list) := (mAsk_list E sk _).trans HLi.out
   change (mLoad E sk (cVersion E st)).2.pos ≤ _ at hp1
   have HA1 : Hid ((mLoad E sk (cVersion E st)).2.over = true ∨ ((mLoad E sk (cVersion E st)).2.over = false ∧ (mLoad E sk (cVersion E st)).2.pos = sk.pos + 1)) := hadv1
   change Hid ((mLoad E sk (cVersion E st)).2.list = s.list) at HLi1
   clear hLa hTa hKa hKb hadv1
   generalize hq1 : mLoad E sk (cVersion E st) = q1 at *
   obtain ⟨v1, s1⟩ := q1
   have HQ1 : Hid (mLoad E sk (cVersion E st) = (v1, s1)) := hq1
   have HLb : Hid (LifeR E H B p eb w2 s1) := hLb
   have HTb : Hid (TryR B p eb xb w2 x) := hTb
   have HSO : Hid (sk.over = false) := hso
   clear hq1 hLb hTb hso
   by_cases hv1 : v1 = -1
   ·subst hv1
    have HM2 : Hid (mStands E x a st n s1 = R) := by
     show _ = _
     rw [← HM.out, mStands_succ E x a st n sk HSO.out HQ1.out rfl rfl]
     exact (if_pos rfl).symm
    go_wp2
    go_roundg n
    case rel => exact ⟨s1, HM2, enough_next HEn.out HSO.out ((HA1.out).imp id (fun h => by have : s1.pos = sk.pos + 1 := h.2; omega)) hp1, HLb, HTb, HKb, hp1, HLi1⟩
    case measure => omega
   ·have hbe : (v1 == -1) = false := by simpa using hv1
    have HV1 : Hid (¬ v1 = -1) := hv1
    clear hv1
    have hhd := (HLb.out).head
    go_wp2_with fail
    refine (word_at E HE.out H B p eb xb _ _ _ _ HLb.out HTb.out (by omega) (by omega)).mono ?_
    rintro e w3 ⟨rfl, hLc, hTc, hKc⟩
    clear hhd
    go_wp2_with fail
    refine (load_at E HE.out H B p eb xb _ _ _ _ hLc hTc hp1).mono ?_
    rintro e w4 ⟨rfl, hLd, hTd, hKd⟩
    have HKd : Hid (Kp [88] B p eb w w4) := ((HKb.out).trans hKc.up).trans hKd
    have hp2 : (mLoad E s1 (cWord E a)).2.pos ≤ E.seen.length := (mAsk_pos E s1 ⟨1, cWord E a, 0, 0⟩ hp1).2
    have HP2 : Hid (s1.pos ≤ (mLoad E s1 (cWord E a)).2.pos) := (mAsk_pos E s1 ⟨1, cWord E a, 0, 0⟩ hp1).1
    have HO2 : Hid (s1.over = true → (mLoad E s1 (cWord E a)).2 = s1) := fun h => by show (mAsk E s1 _).2 = s1; rw [mAsk_dead h]
    have HLi2 : Hid ((mLoad E s1 (cWord E a)).2.list = s.list) := (mAsk_list E s1 _).trans HLi1.out
    clear hLc hTc hKc hKd
    generalize hq2 : mLoad E s1 (cWord E a) = q2 at *
    obtain ⟨v2, s2⟩ := q2
    have HQ2 : Hid (mLoad E s1 (cWord E a) = (v2, s2)) := hq2
    have HLd : Hid (LifeR E H B p eb w4 s2) := hLd
    have HTd : Hid (TryR B p eb xb w4 x) := hTd
    clear hq2 hLd hTd
    have hhd := (HLd.out).head
    go_wp2_with fail
    refine (version_at E HE.out H B p eb xb _ _ _ _ HLd.out HTd.out (by omega) (by omega)).mono ?_
    rintro e w5 ⟨rfl, hLe, hTe, hKe⟩
    clear hhd
    go_wp2_with fail
    refine (load_at E HE.out H B p eb xb _ _ _ _ hLe hTe hp2).mono ?_
    rintro e w6 ⟨rfl, hLf, hTf, hKf⟩
    have HKf : Hid (Kp [88] B p eb w w6) := ((HKd.out).trans hKe.up).trans hKf
    have hp3 : (mLoad E s2 (cVersion E st)).2.pos ≤ E.seen.length := (mAsk_pos E s2 ⟨1, cVersion E st, 0, 0⟩ hp2).2
    have HP3 : Hid (s2.pos ≤ (mLoad E s2 (cVersion E st)).2.pos) := (mAsk_pos E s2 ⟨1, cVersion E st, 0, 0⟩ hp2).1
    have HO3 : Hid (s2.over = true → (mLoad E s2 (cVersion E st)).2 = s2) := fun h => by show (mAsk E s2 _).2 = s2; rw [mAsk_dead h]
    have HLi3 : Hid ((mLoad E s2 (cVersion E st)).2.list = s.list) := (mAsk_list E s2 _).trans HLi2.out
    clear hLe hTe hKe hKf
    generalize hq3 : mLoad E s2 (cVersion E st) = q3 at *
    obtain ⟨v3, s3⟩ := q3
    have HQ3 : Hid (mLoad E s2 (cVersion E st) = (v3, s3)) := hq3
    have HLf : Hid (LifeR E H B p eb w6 s3) := hLf
    have HTf : Hid (TryR B p eb xb w6 x) := hTf
    have HSucc : Hid (R = (if s3.over = true ∨ v3 ≠ v1 then mStands E x a st n s3 else
           let x1 := if (entIdx x.reads st).isSome then x else { x with reads := x.reads ++ [⟨st, v1⟩] }
           if v1 ≤ x1.valid then (v2, 0, s3, x1) else (v2, (mExtend E s3 x1).1, (mExtend E s3 x1).2.1, (mExtend E s3 x1).2.2))) := by
     show _ = _
     rw [← HM.out, mStands_succ E x a st n sk HSO.out HQ1.out HQ2.out HQ3.out]
     exact if_neg HV1.out
    have HAdv : Hid (s3.over = true ∨ sk.pos < s3.pos) := by
     show _ ∨ _
     have h2 : s1.pos ≤ s2.pos := HP2.out
     have h3 : s2.pos ≤ s3.pos := HP3.out
     rcases HA1.out with h | h
     ·left
      have e2 : s2 = s1 := HO2.out h
      have e3 : s3 = s2 := HO3.out (by rw [e2]; exact h)
      rw [e3, e2]; exact h
     ·right
      have : s1.pos = sk.pos + 1 := h.2
      omega
    clear hq3 hLf hTf HM HQ1 HQ2 HQ3 HA1 HO2 HO3 HP2 HP3
    have hov := (HLf.out).over
    by_cases hcont : s3.over = true ∨ v3 ≠ v1
    ·have HM2 : Hid (mStands E x a st n s3 = R) := by
      show _ = _
      rw [HSucc.out]
      exact (if_pos hcont).symm
     clear HSucc
     have hk2 : enough E s3 n := enough_next HEn.out HSO.out HAdv.out hp3
     have HEn2 : Hid (enough E s3 n) := hk2
     clear hk2
     cases hs3 : s3.over with
     | true =>
      clear hcont
      go_wp2
      go_roundg n
      case rel => exact ⟨s3, HM2, HEn2, HLf, HTf, HKf, hp3, HLi3⟩
      case measure => omega
     | false =>
      have hb3 : (v3 != v1) = true := by simpa [hs3] using hcont
      clear hcont
      go_wp2
      go_roundg n
      case rel => exact ⟨s3, HM2, HEn2, HLf, HTf, HKf, hp3, HLi3⟩
      case measure => omega
    ·have hs3 : s3.over = false := by
      cases h : s3.over with
      | false => rfl
      | true => exact absurd (Or.inl h) hcont
     have he31 : v3 = v1 := by
      by_cases h : v3 = v1
      ·exact h
      ·exact absurd (Or.inr h) hcont
     have hb3 : (v3 != v1) = false := by simp [he31]
     have HSucc2 : Hid (R = (let x1 := if (entIdx x.reads st).isSome then x else { x with reads := x.reads ++ [⟨st, v1⟩] }
            if v1 ≤ x1.valid then (v2, 0, s3, x1) else (v2, (mExtend E s3 x1).1, (mExtend E s3 x1).2.1, (mExtend E s3 x1).2.2))) := by
      show _ = _
      rw [HSucc.out]
      exact if_neg hcont
     clear HSucc hcont he31 HEn HAdv
     obtain ⟨ra, rc, hr1, hn1⟩ := (HTf.out).reads
     go_wp2_with fail
     refine (find_any _ _ _ x.reads _ _ rfl (by omega) hn1).mono ?_
     rintro e w7 ⟨rfl, hw7⟩
     have hw72 := hw7.symm
     subst hw72
     clear hn1 hr1
     cases hix : entIdx x.reads st with
     | some k =>
      have hk0 : ¬ ((k : Int) < 0) := by omega
      have HSucc3 : Hid (R = (if v1 ≤ x.valid then (v2, 0, s3, x) else (v2, (mExtend E s3 x).1, (mExtend E s3 x).2.1, (mExtend E s3 x).2.2))) := by
       show _ = _
       rw [HSucc2.out, hix]
       rfl
      clear HSucc2
      obtain ⟨ca, cc, ra', rc', wa, wc, ha, hc, hxc, hxf⟩ := (HTf.out).cells
      have hx7 : w6.cell? ⟨xb, 7, none⟩ = some (.int .i64 x.valid) := by rw [hxc]; rfl
      clear hxc hxf
      unfold idxN
      by_cases hval : v1 ≤ x.valid
      ·have HF : Hid (R = (v2, 0, s3, x)) := by show _ = _; rw [HSucc3.out]; exact if_pos hval
       clear HSucc3
       go_wp2
       go_ret2
       exact ⟨by rw [HF.out]; rfl, by rw [HF.out]; exact HLf.out, by rw [HF.out]; exact HTf.out, (HKf.out).wide (by simp)⟩
      ·have HF : Hid (R = (v2, (mExtend E s3 x).1, (mExtend E s3 x).2.1, (mExtend E s3 x).2.2)) := by show _ = _; rw [HSucc3.out]; exact if_neg hval
       clear HSucc3
       go_wp2_with fail
       refine (extend_any E HE.out H B p eb xb s3 x _ HLf.out HTf.out hp3 (by rw [show s3.list = s.list from HLi3.out]; exact hne) (by rw [show s3.list = s.list from HLi3.out]; exact hlen) (by omega) hm2 hst).mono ?_
       rintro e w8 ⟨rfl, hLg, hTg, hKg⟩
       have HLg : Hid (LifeR E H B p eb w8 (mExtend E s3 x).2.1) := hLg
       have HTg : Hid (TryR B p eb xb w8 (mExtend E s3 x).2.2) := hTg
       have HKg : Hid (Kp [88, 145, 63] B p eb w6 w8) := hKg
       clear hLg hTg hKg
       generalize mExtend E s3 x = qe at *
       go_wp2_with fail
       go_ret2
       exact ⟨by rw [HF.out]; rfl, by rw [HF.out]; exact HLg.out, by rw [HF.out]; exact HTg.out, ((HKf.out).wide (by simp)).trans ((HKg.out).wide (by simp))⟩
     | none =>
      have HSucc3 : Hid (R = (if v1 ≤ x.valid then (v2, 0, s3, { x with reads := x.reads ++ [⟨st, v1⟩] }) else (v2, (mExtend E s3 { x with reads := x.reads ++ [⟨st, v1⟩] }).1, (mExtend E s3 { x with reads := x.reads ++ [⟨st, v1⟩] }).2.1, (mExtend E s3 { x with reads := x.reads ++ [⟨st, v1⟩] }).2.2))) := by
       show _ = _
       rw [HSucc2.out, hix]
       rfl
      clear HSucc2
      obtain ⟨ca, cc, ra, rc, wa, wc, ha, hc, hb, hcd, hcf, g3, g4, g5, g6⟩ := (HTf.out).blk
      have hx8 : w6.cell? ⟨xb, 8, none⟩ = some (.slice ra x.reads.length rc) := by rw [hb.cell]; rfl
      have hxlt := hb.lt
      have HBl : Hid (Blk w6 xb 145 (tryArr ca cc ra rc wa wc ha hc x)) := hb
      have HCd : Hid (CodeIn w6 B ca x.code) := hcd
      have HCf : Hid _ := hcf
      have H3 : Hid (w6.ownsRow B 160 2 (.slice ra x.reads.length rc) x.reads.length (x.reads.flatMap entCells)) := g3
      have H4 : Hid (w6.ownsRow B 160 2 (.slice wa x.writes.length wc) x.writes.length (x.writes.flatMap entCells)) := g4
      have H5 : Hid (w6.ownsRow B 3 1 (.slice ha x.held.length hc) x.held.length (x.held.map (.int .i64 ·))) := g5
      have H6 : Hid (∀ k, (Value.slice ra x.reads.length rc).ownBlock = some k → (Value.slice wa x.writes.length wc).ownBlock ≠ some k) := g6
      have hBs := (HLf.out).stat.size
      have hxne : (Value.slice ra x.reads.length rc).ownBlock ≠ some xb := fun e => by
       rcases g3.2 with ⟨h1, _⟩ | ⟨g', c', cur', h1, _, h2, _⟩
       ·rw [h1] at e; simp [Value.ownBlock] at e
       ·rw [h1] at e; simp [Value.ownBlock] at e; subst e
        exact Blk.ne (show Blk w6 g' 160 cur' from h2) hb (by decide) rfl
      clear hb hcd hcf g3 g4 g5 g6
      unfold idxN
      have hfx : w6.frozen? ⟨xb, 8, none⟩ = false := (HBl.out).frozen _
      have hx7 : w6.cell? ⟨xb, 7, none⟩ = some (.int .i64 x.valid) := by rw [(HBl.out).cell]; rfl
      by_cases hval : v1 ≤ x.valid
      ·have HF : Hid (R = (v2, 0, s3, { x with reads := x.reads ++ [⟨st, v1⟩] })) := by show _ = _; rw [HSucc3.out]; exact if_pos hval
       clear HSucc3
       go_wp2_with
        (at_builtin;
            refine wpList_append_lies _ (by rfl) _ _ _ (by rfl) B 160 i0 _ 2 16 Tryz.underlying143 hi0 hz0 hz1 hz2 rfl (by omega) (.slice ra x.reads.length rc) x.reads.length (x.reads.flatMap entCells) (by rfl) ((H3.out).alloc _)
             ⟨w6.heap.size, 0, none⟩ 1 1 [.int .i64 st, .int .i64 v1] (by rfl) (by rfl) (World.news_of_block (cs := #[.int .i64 st, .int .i64 v1]) (t := 160) (fr := (0, 0)) (heap_alloc_new w6 _)) (by simp [Value.oneCell'])
             (by omega) (by unfold maxLen; omega) (by omega) (by simp; omega) (w6.heap.size + 1) (by simp) ?_;
            intro gg cap w7 hown1 hgrow hat hlt;
            have hd8 : w7.cell? ⟨xb, 8, none⟩ = some (.slice ra x.reads.length rc) := (by rw [hgrow.cell_far _ (by simp; omega) (Ne.symm hxne)]; simpa [World.cell?_alloc_lt, hxlt] using hx8);
            have hd7 : w7.cell? ⟨xb, 7, none⟩ = some (.int .i64 x.valid) := (by rw [hgrow.cell_far _ (by simp; omega) (Ne.symm hxne)]; simpa [World.cell?_alloc_lt, hxlt] using hx7);
            have he8 : w7.frozen? ⟨xb, 8, none⟩ = false := (by rw [hgrow.frozen_far _ (by simp; omega) (Ne.symm hxne)]; simpa [World.frozen?_alloc_past, hxlt] using hfx);
            have hTK := tryAddRead (p := p) (eb := eb) (st := st) (v := v1) HBl.out HCd.out HCf.out H3.out H4.out H5.out H6.out hBs (HTf.out).xB (HTf.out).regs ((Below.refl _ _).alloc (Nat.le_refl _) _) hgrow hown1 hat;
            have HLg : Hid (LifeR E H B p eb (w7.setCell ⟨xb, 8, none⟩ (.slice (some ⟨gg, 0, none⟩) (x.reads.length + 1) cap)) s3) := (HLf.out).keep hTK.2 (by simp) (by simp) (by simp) (by simp);
            have HTg : Hid (TryR B p eb xb (w7.setCell ⟨xb, 8, none⟩ (.slice (some ⟨gg, 0, none⟩) (x.reads.length + 1) cap)) { x with reads := x.reads ++ [⟨st, v1⟩] }) := hTK.1;
            have HKg : Hid (Kp [145, 160] B p eb w6 (w7.setCell ⟨xb, 8, none⟩ (.slice (some ⟨gg, 0, none⟩) (x.reads.length + 1) cap))) := hTK.2;
            clear hTK hown1 hgrow hat)
       go_ret2
       exact ⟨by rw [HF.out]; rfl, by rw [HF.out]; exact HLg.out, by rw [HF.out]; exact HTg.out, ((HKf.out).wide (by simp)).trans ((HKg.out).wide (by simp))⟩
      ·have HF : Hid (R = (v2, (mExtend E s3 { x with reads := x.reads ++ [⟨st, v1⟩] }).1, (mExtend E s3 { x with reads := x.reads ++ [⟨st, v1⟩] }).2.1, (mExtend E s3 { x with reads := x.reads ++ [⟨st, v1⟩] }).2.2)) := by show _ = _; rw [HSucc3.out]; exact if_neg hval
       clear HSucc3
       have hstn : ∀ e ∈ ({ x with reads := x.reads ++ [⟨st, v1⟩] } : TS).reads, -8 ≤ e.what ∧ e.what ≤ 8 := fun e he => by
        rcases List.mem_append.1 he with h | h
        ·exact hst e h
        ·simp at h; subst h; exact ⟨hs1, hs2⟩
       have HSt : Hid (∀ e ∈ ({ x with reads := x.reads ++ [⟨st, v1⟩] } : TS).reads, -8 ≤ e.what ∧ e.what ≤ 8) := hstn
       clear hstn
       go_wp2_with
        (at_builtin;
            refine wpList_append_lies _ (by rfl) _ _ _ (by rfl) B 160 i0 _ 2 16 Tryz.underlying143 hi0 hz0 hz1 hz2 rfl (by omega) (.slice ra x.reads.length rc) x.reads.length (x.reads.flatMap entCells) (by rfl) ((H3.out).alloc _)
             ⟨w6.heap.size, 0, none⟩ 1 1 [.int .i64 st, .int .i64 v1] (by rfl) (by rfl) (World.news_of_block (cs := #[.int .i64 st, .int .i64 v1]) (t := 160) (fr := (0, 0)) (heap_alloc_new w6 _)) (by simp [Value.oneCell'])
             (by omega) (by unfold maxLen; omega) (by omega) (by simp; omega) (w6.heap.size + 1) (by simp) ?_;
            intro gg cap w7 hown1 hgrow hat hlt;
            have hd8 : w7.cell? ⟨xb, 8, none⟩ = some (.slice ra x.reads.length rc) := (by rw [hgrow.cell_far _ (by simp; omega) (Ne.symm hxne)]; simpa [World.cell?_alloc_lt, hxlt] using hx8);
            have hd7 : w7.cell? ⟨xb, 7, none⟩ = some (.int .i64 x.valid) := (by rw [hgrow.cell_far _ (by simp; omega) (Ne.symm hxne)]; simpa [World.cell?_alloc_lt, hxlt] using hx7);
            have he8 : w7.frozen? ⟨xb, 8, none⟩ = false := (by rw [hgrow.frozen_far _ (by simp; omega) (Ne.symm hxne)]; simpa [World.frozen?_alloc_past, hxlt] using hfx);
            have hTK := tryAddRead (p := p) (eb := eb) (st := st) (v := v1) HBl.out HCd.out HCf.out H3.out H4.out H5.out H6.out hBs (HTf.out).xB (HTf.out).regs ((Below.refl _ _).alloc (Nat.le_refl _) _) hgrow hown1 hat;
            have HLg : Hid (LifeR E H B p eb (w7.setCell ⟨xb, 8, none⟩ (.slice (some ⟨gg, 0, none⟩) (x.reads.length + 1) cap)) s3) := (HLf.out).keep hTK.2 (by simp) (by simp) (by simp) (by simp);
            have HTg : Hid (TryR B p eb xb (w7.setCell ⟨xb, 8, none⟩ (.slice (some ⟨gg, 0, none⟩) (x.reads.length + 1) cap)) { x with reads := x.reads ++ [⟨st, v1⟩] }) := hTK.1;
            have HKg : Hid (Kp [145, 160] B p eb w6 (w7.setCell ⟨xb, 8, none⟩ (.slice (some ⟨gg, 0, none⟩) (x.reads.length + 1) cap))) := hTK.2;
            clear hTK hown1 hgrow hat)
       refine (extend_any E HE.out H B p eb xb s3 { x with reads := x.reads ++ [⟨st, v1⟩] } _ HLg.out HTg.out hp3 (by rw [show s3.list = s.list from HLi3.out]; exact hne) (by rw [show s3.list = s.list from HLi3.out]; exact hlen) (by simp; omega) hm2 HSt.out).mono ?_
       rintro e w8 ⟨rfl, hLh, hTh, hKh⟩
       have HLh : Hid (LifeR E H B p eb w8 (mExtend E s3 { x with reads := x.reads ++ [⟨st, v1⟩] }).2.1) := hLh
       have HTh : Hid (TryR B p eb xb w8 (mExtend E s3 { x with reads := x.reads ++ [⟨st, v1⟩] }).2.2) := hTh
       have HKh : Hid (Kp [88, 145, 63] B p eb _ w8) := hKh
       clear hLh hTh hKh
       generalize mExtend E s3 { x with reads := x.reads ++ [⟨st, v1⟩] } = qe at *
       go_wp2_with fail
       go_ret2
       exact ⟨by rw [HF.out]; rfl, by rw [HF.out]; exact HLh.out, by rw [HF.out]; exact HTh.out, ((HKf.out).wide (by simp)).trans (((HKg.out).wide (by simp)).trans ((HKh.out).wide (by simp)))⟩
end Go.Proofs.YtejadojilncbjaaGreat
namespace Go.Proofs.YtejadojilncbjaaGreat
open Go.RowKit
set_option linter.unusedVariables false
attribute [local go_sem ↓] Go.wp_at_zero Go.wp_at_succ
theorem Tryz.info95 : (Tryz.prog.info? 95).map (fun i => (i.zero, i.size, i.bytes)) = some (some (.agg #[.int .i64 0, .int .i64 0, .int .i64 0]), 3, 24) := by kernel_rfl
theorem noted_close {E : Env} {H : Hd} {B p eb : Nat} {s : LS} {op addr val : Int} {w w0 w1 : World} {g lc n : Nat} {nvs : List Value} {a : AttD} {nv : Value} {gn cap : Nat} (hL : LifeR E H B p eb w s) (hb : Blk w p 88 (lifeArr E H (some ⟨g, 0, none⟩) lc s))
  (hl : nvs.length = s.list.length)
  (ho : w.ownsRow B 63 8 (.slice (some ⟨g, 0, none⟩) s.list.length lc) s.list.length (rowCells s.list nvs)) (hno : ∀ (i : Nat) (a : AttD) (nv : Value), s.list[i]? = some a → nvs[i]? = some nv → w.ownsRow B 95 3 nv a.notes.length (a.notes.flatMap noteCells))
  (hd : ∀ (i j : Nat) (u v : Value) (k : Nat), nvs[i]? = some u → nvs[j]? = some v → u.ownBlock = some k → v.ownBlock = some k → i = j) (hn : s.list.length = n + 1) (ha : s.list[n]? = some a) (hv : nvs[n]? = some nv)
  (hb0 : Below w.heap.size w w0) (hgr : w0.grownBy w1 nv.ownBlock) (hown : w1.ownsRow B 95 3 (.slice (some ⟨gn, 0, none⟩) (a.notes.length + 1) cap) (a.notes.length + 1) (a.notes.flatMap noteCells ++ [.int .i64 op, .int .i64 addr, .int .i64 val]))
  (hat : nv.ownBlock = some gn ∨ gn = w.heap.size + 1) :
  LifeR E H B p eb (w1.setCell ⟨g, n * 8 + 7, none⟩ (.slice (some ⟨gn, 0, none⟩) (a.notes.length + 1) cap)) (mNoted s op addr val) ∧ Kp [63, 95] B p eb w (w1.setCell ⟨g, n * 8 + 7, none⟩ (.slice (some ⟨gn, 0, none⟩) (a.notes.length + 1) cap)) := by
 have hB := hL.stat.size
 have hk0 : Kp [63, 95] B p eb w w0 := Kp.below hb0 hB
 have ho0 : w0.ownsRow B 95 3 nv a.notes.length (a.notes.flatMap noteCells) := ownsRow_keep (hno n a nv ha hv) (Kp.below (chg := []) (p := 0) (eb := 0) hb0 hB) (by simp)
 have hk1 : Kp [95] B p eb w0 w1 := Kp.grown hgr (Nat.le_trans hB hb0.size) ho0 (by simp)
 have ho1 : w1.ownsRow B 63 8 (.slice (some ⟨g, 0, none⟩) s.list.length lc) s.list.length (rowCells s.list nvs) := ownsRow_keep (ownsRow_keep ho (Kp.below (chg := []) (p := 0) (eb := 0) hb0 hB) (by simp)) hk1 (by simp)
 obtain ⟨g', cap', cur, hv', hgB, hgb, _⟩ := own_block ho1 (by omega)
 simp at hv'
 obtain ⟨rfl, rfl⟩ := hv'
 have hk2 : Kp [63, 95] B p eb w1 (w1.setCell ⟨g, n * 8 + 7, none⟩ (.slice (some ⟨gn, 0, none⟩) (a.notes.length + 1) cap)) := Kp.only (Only.refl _ _).set (by have := hb0.size; have := hgr.size; omega) hgb (by simp) (Or.inr (Or.inr hgB))
 have hk := hk0.trans ((hk1.wide (by simp)).trans hk2)
 refine ⟨⟨hL.stat.keep hk, ⟨some ⟨g, 0, none⟩, lc, ?_, ?_⟩, hL.ends.imp id (fun ⟨x, y⟩ => ⟨x, y.keep hk (by simp)⟩), hL.pB, hL.eB, hL.pe⟩, hk⟩
 ·have := hb.keep hk (by simp)
  refine this.congr ?_
  simp [lifeArr, mNoted, modLast]
 ·exact ListRep.note hl ho hno hd hn ha hv hb0 hB hgr hown (hat.imp id (fun h => by omega))
set_option maxRecDepth 100000 in
set_option maxHeartbeats 3200000 in
theorem noted_any (E : Env) (H : Hd) (B p eb : Nat) (s : LS) (op addr val : Int) (w : World) (hL : LifeR E H B p eb w s) (hne : s.list ≠ []) (hlen : s.list.length ≤ 2 ^ 42)
  (hnl : ∀ a ∈ s.list, a.notes.length ≤ 2 ^ 40) :
  Calls Tryz.prog 123 #[.pointer (some ⟨p, 0, none⟩), .int .i64 op, .int .i64 addr, .int .i64 val] w fun e w' =>
   e = .returned (.tuple #[]) ∧ LifeR E H B p eb w' (mNoted s op addr val) ∧ Kp [63, 95] B p eb w w' := by
 obtain ⟨i0, hi0, hz0, hz1, hz2⟩ := info_parts Tryz.info95
 obtain ⟨la, lc, hb, nvs, hl, ho, hno, hd⟩ := hL.life
 obtain ⟨n, hn⟩ : ∃ n, s.list.length = n + 1 := ⟨s.list.length - 1, by have := List.length_pos_iff.2 hne; omega⟩
 obtain ⟨a, ha⟩ : ∃ a, s.list[n]? = some a := ⟨s.list[n]'(by omega), List.getElem?_eq_getElem (by omega)⟩
 obtain ⟨nv, hv⟩ : ∃ nv, nvs[n]? = some nv := ⟨nvs[n]'(by omega), List.getElem?_eq_getElem (by omega)⟩
 obtain ⟨g, cap, cur, hgv, hgB, hgb, r1, r2, r3, r4⟩ := own_block ho (by omega)
 simp at hgv
 obtain ⟨rfl, rfl⟩ := hgv
 have hnlen : a.notes.length ≤ 2 ^ 40 := hnl a (List.mem_of_getElem? ha)
 have hown := hno n a nv ha hv
 have hc7 : w.cell? ⟨g, n * 8 + 7, none⟩ = some nv := by
  rw [hgb.cell]
  have e1 : (rowCells s.list nvs)[n * 8 + 7]? = some nv := by
   unfold rowCells
   rw [flat_at (n := 8) (fun _ => rfl) _ n 7 (by omega)]
   have : (s.list.zip nvs)[n]? = some (a, nv) := by rw [List.getElem?_zip_eq_some]; exact ⟨ha, hv⟩
   rw [this]; rfl
  rw [← e1, ← r4, List.getElem?_take, if_pos (by omega), Array.getElem?_toList]
 have hf7 : w.frozen? ⟨g, n * 8 + 7, none⟩ = false := hgb.frozen _
 have hc21 : w.cell? ⟨p, 21, none⟩ = some (.slice (some ⟨g, 0, none⟩) (n + 1) lc) := by rw [hb.cell]; simp [lifeArr, hn]
 obtain ⟨na, ncap, hnv⟩ : ∃ na ncap, nv = .slice na a.notes.length ncap := by
  rcases hown.2 with ⟨h1, h2⟩ | ⟨g', c', _, h1, _⟩
  ·exact ⟨none, 0, by rw [h1, h2]⟩
  ·exact ⟨_, c', h1⟩
 have hlt21 := block_lt hc21
 have hlt7 := block_lt hc7
 have hgne : nv.ownBlock ≠ some g := fun e => by
  rcases hown.2 with ⟨h1, _⟩ | ⟨g', c', cur', h1, _, h2, _⟩
  ·rw [h1] at e; simp [Value.ownBlock] at e
  ·rw [h1] at e; simp [Value.ownBlock] at e; subst e
   exact Blk.ne (show Blk w g' 95 cur' from h2) hgb (by decide) rfl
 have hpne : nv.ownBlock ≠ some p := fun e => by
  rcases hown.2 with ⟨h1, _⟩ | ⟨g', c', cur', h1, _, h2, _⟩
  ·rw [h1] at e; simp [Value.ownBlock] at e
  ·rw [h1] at e; simp [Value.ownBlock] at e; subst e
   exact Blk.ne (show Blk w g' 95 cur' from h2) hb (by decide) rfl
 have hpg : p ≠ g := Blk.ne hb hgb (by decide)
 have hgp : g ≠ p := fun e => hpg e.symm
 have hI0 : (0 : Int) ≤ (n : Int) := Int.natCast_nonneg _
 have hI1 : (n : Int) < ((n + 1 : Nat) : Int) := by omega
 have hn42 : (n : Int) ≤ 4398046511104 := by omega
 have hI2 : (n : Int) < (n : Int) + 1 := by omega
 have HL : Hid (LifeR E H B p eb w s) := hL
 have HN : Hid (s.list.length = n + 1) := hn
 have HNV : Hid (nv = .slice na a.notes.length ncap) := hnv
 have HA : Hid (s.list[n]? = some a) := ha
 have HV : Hid (nvs[n]? = some nv) := hv
 have HNL : Hid (nvs.length = s.list.length) := hl
 have HO : Hid (w.ownsRow B 63 8 (.slice (some ⟨g, 0, none⟩) s.list.length lc) s.list.length (rowCells s.list nvs)) := ho
 have HNO : Hid (∀ (i : Nat) (a : AttD) (nv : Value), s.list[i]? = some a → nvs[i]? = some nv → w.ownsRow B 95 3 nv a.notes.length (a.notes.flatMap noteCells)) := hno
 have HD : Hid (∀ (i j : Nat) (u v : Value) (k : Nat), nvs[i]? = some u → nvs[j]? = some v → u.ownBlock = some k → v.ownBlock = some k → i = j) := hd
 have HBk : Hid (Blk w p 88 (lifeArr E H (some ⟨g, 0, none⟩) lc s)) := hb
 have HW : Hid (w.ownsRow B 95 3 nv a.notes.length (a.notes.flatMap noteCells)) := hown
 have hBs := hL.stat.size
 clear hL hn hnv ha hv hl ho hno hd hb hown hgb r1 r2 r3 r4 hnl hne hlen
 go_enter Tryz.func123, Tryz.ntmps123
 go_wp2_with fail
 go_region_law
  ((refine step_append_lies _ (by rfl) _ _ _ (by rfl) B 95 i0 _ 3 24 Tryz.underlying61 hi0 hz0 hz1 hz2 rfl (by omega) nv a.notes.length (a.notes.flatMap noteCells) (by rfl) (((HW.out).alloc _).drew)
          ⟨w.heap.size, 0, none⟩ 1 1 [.int .i64 op, .int .i64 addr, .int .i64 val] (by rfl) (by rfl) (World.news_of_block (cs := #[.int .i64 op, .int .i64 addr, .int .i64 val]) (t := 95) (fr := (0, 0)) (heap_alloc_new w _)) (by simp [Value.oneCell'])
          (by omega) (by unfold maxLen; omega) (by omega) (by simp; omega) (w.heap.size + 1) (by simp) ?_; intro gg cap w1 hown1 hgrow hat hlt;
          have hd21 : w1.cell? ⟨p, 21, none⟩ = some (.slice (some ⟨g, 0, none⟩) (n + 1) lc) := (by rw [hgrow.cell_far _ (by simp; omega) (Ne.symm hpne)]; simpa [World.cell?_alloc_lt, hlt21] using hc21);
          have hd7 : w1.cell? ⟨g, n * 8 + 7, none⟩ = some nv := (by rw [hgrow.cell_far _ (by simp; omega) (Ne.symm hgne)]; simpa [World.cell?_alloc_lt, hlt7] using hc7);
          have he7 : w1.frozen? ⟨g, n * 8 + 7, none⟩ = false := (by rw [hgrow.frozen_far _ (by simp; omega) (Ne.symm hgne)]; simpa [World.frozen?_alloc_past, hlt7] using hf7)))
 all_goals
  go_wp2
  go_end0
  exact ⟨rfl, noted_close HL.out HBk.out HNL.out HO.out HNO.out HD.out HN.out HA.out HV.out ((Below.refl _ _).alloc (Nat.le_refl _) _).drew hgrow hown1 hat⟩
def shutStep (E : Env) (s : LS) (h : Int) : LS := (mStore E s (cVersion E h) (-1)).2
def writeStep (E : Env) (s : LS) (e : EntD) : LS := (mStore E s (cWord E e.what) e.val).2
def openStep (E : Env) (c : Int) (s : LS) (h : Int) : LS := (mStore E (mStore E s (cVersion E h) (c + 1)).2 (cOwner E h) 0).2
theorem shutStep_pos (E : Env) (s : LS) (h : Int) (hp : s.pos ≤ E.seen.length) : s.pos ≤ (shutStep E s h).pos ∧ (shutStep E s h).pos ≤ E.seen.length := mAsk_pos E s _ hp
theorem writeStep_pos (E : Env) (s : LS) (e : EntD) (hp : s.pos ≤ E.seen.length) : s.pos ≤ (writeStep E s e).pos ∧ (writeStep E s e).pos ≤ E.seen.length := mAsk_pos E s _ hp
theorem openStep_pos (E : Env) (c : Int) (s : LS) (h : Int) (hp : s.pos ≤ E.seen.length) : s.pos ≤ (openStep E c s h).pos ∧ (openStep E c s h).pos ≤ E.seen.length := by
 have h1 := mAsk_pos E s ⟨2, cVersion E h, 0, c + 1⟩ hp
 have h2 := mAsk_pos E (mStore E s (cVersion E h) (c + 1)).2 ⟨2, cOwner E h, 0, 0⟩ h1.2
 exact ⟨Nat.le_trans h1.1 h2.1, h2.2⟩
theorem foldl_list {α : Type} (f : LS → α → LS) (hf : ∀ s a, (f s a).list = s.list) : ∀ (l : List α) (s : LS), (l.foldl f s).list = s.list
 | [], s => rfl
 | a :: l, s => (foldl_list f hf l (f s a)).trans (hf s a)
theorem mCommit_mark (E : Env) (s : LS) (x : TS) {v1 : Int} {s1 : LS} (e1 : mLoad E s (cStatus E E.me) = (v1, s1)) (h : s1.over = false ∧ 0 < v1.tmod 8) : mCommit E s x = (5, s1, x) := by
 unfold mCommit
 simp only [e1]
 exact if_pos h
theorem mGate_stop (E : Env) (n : Nat) (s : LS) (x : TS) (h : s.over = true ∨ x.inGate = true) : mGate E n s x = (s, x) := by
 cases n with
 | zero => rfl
 | succ n => rw [mGate, if_pos h]
theorem mGate_step (E : Env) (n : Nat) (s : LS) (x : TS) (h : ¬ (s.over = true ∨ x.inGate = true)) {v : Int} {s1 : LS} (e : mAsk E s ⟨3, 2, 0, E.me + 1⟩ = (v, s1)) : mGate E (n + 1) s x = mGate E n s1 { x with inGate := v == 0 } := by
 rw [mGate, if_neg h]
 simp only [e]
theorem mCommit_dead (E : Env) (s : LS) (x : TS) {v1 : Int} {s1 : LS} (e1 : mLoad E s (cStatus E E.me) = (v1, s1)) (h : s1.over = true) : mCommit E s x = (-1, s1, x) := by
 unfold mCommit
 simp only [e1]
 rw [if_neg (by simp [h]), mGate_stop E _ s1 x (Or.inl h)]
 show (if (mLoad E s1 0).2.over = true then _ else _) = _
 rw [show mLoad E s1 0 = (0, s1) from mAsk_dead h]
 exact if_pos h
def mGated (E : Env) (s : LS) (x : TS) : Int × LS × TS :=
 let q2 := mLoad E s 0
 if q2.2.over then (-1, q2.2, x) else
  let t := if q2.1 ≠ x.valid then mStill E x true x.reads q2.2 else (0, q2.2)
  if t.1 ≠ 0 then (t.1, t.2, x) else
   let s1 := x.held.foldl (shutStep E) t.2
   let q3 := mStore E s1 0 (q2.1 + 1)
   if q3.2.over then (-1, q3.2, x) else
    let s2 := { q3.2 with list := modLast q3.2.list fun a => { a with stamp := q2.1 + 1 } }
    let s3 := (mStore E s2 2 0).2
    let s4 := x.writes.foldl (writeStep E) s3
    let s5 := x.held.foldl (openStep E q2.1) s4
    (1, s5, x)
theorem mCommit_gate (E : Env) (s : LS) (x : TS) {v1 : Int} {s1 : LS} (e1 : mLoad E s (cStatus E E.me) = (v1, s1)) (h : ¬ (s1.over = false ∧ 0 < v1.tmod 8)) :
  mCommit E s x = mGated E (mGate E (loopFuel E s1) s1 x).1 (mGate E (loopFuel E s1) s1 x).2 := by
 unfold mCommit mGated
 simp only [e1]
 rw [if_neg h]
 rfl
end Go.Proofs.YtejadojilncbjaaGreat
