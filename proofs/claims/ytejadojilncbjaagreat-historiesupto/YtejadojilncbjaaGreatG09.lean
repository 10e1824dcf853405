import Derived.Test.YtejadojilncbjaaGreatG08
namespace Go.Proofs.YtejadojilncbjaaGreat
open Go.RowKit
set_option linter.unusedVariables false
attribute [local go_sem ↓] Go.wp_at_zero Go.wp_at_succ
theorem wrapJ (n : Int) (h1 : -1152921504606846976 ≤ n) (h2 : n ≤ 1152921504606846976) : IntKind.i64.wrap n = n := by rw [IntKind.wrap_i64]; omega
theorem TryR.writes {B p eb xb : Nat} {w : World} {x : TS} (h : TryR B p eb xb w x) : ∃ wa wc, w.cell? ⟨xb, 9, none⟩ = some (.slice wa x.writes.length wc) ∧ EntsIn w wa x.writes := by
 obtain ⟨ca, cc, ra, rc, wa, wc, ha, hc, hb, hcd, hcf, h3, h4, h5, h6⟩ := h.blk
 exact ⟨wa, wc, by rw [hb.cell]; rfl, ents_of h4⟩
theorem TryR.writesKeep {chg : List TypeId} {B p eb xb b rc : Nat} {w w' : World} {x : TS} (h : TryR B p eb xb w x) (hk : Kp chg B p eb w w') (h0 : 145 ∉ chg) (h2 : 160 ∉ chg)
  (hh : w.cell? ⟨xb, 9, none⟩ = some (.slice (some ⟨b, 0, none⟩) x.writes.length rc)) (hn : 0 < x.writes.length) :
  w'.cell? ⟨xb, 9, none⟩ = some (.slice (some ⟨b, 0, none⟩) x.writes.length rc) ∧ ∀ i, w'.cell? ⟨b, i, none⟩ = w.cell? ⟨b, i, none⟩ := by
 obtain ⟨ca, cc, ra, rc', wa, wc, ha, hc', hb, hcd, hcf, h3, h4, h5, h6⟩ := h.blk
 refine ⟨by rw [cell_tag hb hk h0]; exact hh, fun i => ?_⟩
 rw [hb.cell] at hh
 obtain ⟨g, cap, cur, hv, _, hg, _⟩ := own_block h4 hn
 simp [tryArr] at hh
 simp at hv
 obtain ⟨rfl, _⟩ := hv
 simp at hh
 obtain ⟨rfl, _⟩ := hh
 exact cell_tag hg hk h2
set_option maxRecDepth 100000 in
set_option maxHeartbeats 8000000 in
theorem commit_any (E : Env) (hE : EnvOk E) (H : Hd) (B p eb xb : Nat) (s : LS) (x : TS) (w : World) (hL : LifeR E H B p eb w s) (hT : TryR B p eb xb w x) (hpos : s.pos ≤ E.seen.length) (hne : s.list ≠ []) (hlen : s.list.length ≤ 2 ^ 42)
  (hm : x.reads.length ≤ 2 ^ 40) (hm2 : x.held.length ≤ 2 ^ 40) (hm3 : x.writes.length ≤ 2 ^ 40) (hst : ∀ e ∈ x.reads, -8 ≤ e.what ∧ e.what ≤ 8) (hhd8 : ∀ h ∈ x.held, -8 ≤ h ∧ h ≤ 8) (hwr : ∀ e ∈ x.writes, -70000 ≤ e.what ∧ e.what ≤ 1125899906842624) :
  Calls Tryz.prog 84 #[.pointer (some ⟨p, 0, none⟩), .pointer (some ⟨xb, 0, none⟩)] w fun e w' =>
   e = .returned (.int .i64 (mCommit E s x).1) ∧ LifeR E H B p eb w' (mCommit E s x).2.1 ∧ TryR B p eb xb w' (mCommit E s x).2.2 ∧ Kp [88, 145, 63] B p eb w w' := by
 have HE : Hid (EnvOk E) := hE
 have HL : Hid (LifeR E H B p eb w s) := hL
 have HT : Hid (TryR B p eb xb w x) := hT
 have hme0 := hE.me0
 have hme3 := hE.me3
 have hwme : IntKind.i64.wrap (E.me + 1) = E.me + 1 := wrapJ _ (by omega) (by omega)
 have HST : Hid (∀ e ∈ x.reads, -8 ≤ e.what ∧ e.what ≤ 8) := hst
 have HHD : Hid (∀ h ∈ x.held, -8 ≤ h ∧ h ≤ 8) := hhd8
 have HWR : Hid (∀ e ∈ x.writes, -70000 ≤ e.what ∧ e.what ≤ 1125899906842624) := hwr
 have HNE : Hid (s.list ≠ []) := hne
 clear hE hL hT hst hhd8 hwr hne
 obtain ⟨R, HR⟩ : ∃ R, Hid (mCommit E s x = R) := ⟨_, rfl⟩
 rw [show mCommit E s x = R from HR.out]
 have HS0 : Hid (HeadAt E H p w.drew) := (HL.out).drew.head
 go_enter Tryz.func84, Tryz.ntmps84
 go_wp2_with fail
 go_region_held3 (fun w' => HeadAt E H p w')
  (first | exact HS2.out | exact HS1.out | exact HS0.out)
  (first
      | (go_at_call 88; refine (status_at E HE.out H B p eb xb _ _ _ _ (HL.out).drew (HT.out).drew (by omega) (by omega)).mono ?_; rintro e w1 ⟨rfl, hL2, hT2, hK2⟩; have HL2 : Hid (LifeR E H B p eb w1 s) := hL2; have HT2 : Hid (TryR B p eb xb w1 x) := hT2; have HK2 : Hid (Kp [] B p eb w.drew w1) := hK2; clear hL2 hT2 hK2;
         have HS1 : Hid (HeadAt E H p w1) := (HL2.out).head)
      | (go_at_call 82; refine (load_at E HE.out H B p eb xb _ _ _ _ HL2.out HT2.out hpos).mono ?_; rintro e w2 ⟨rfl, hL3, hT3, hK3⟩; have HL3 : Hid (LifeR E H B p eb w2 (mLoad E s (cStatus E E.me)).2) := hL3; have HT3 : Hid (TryR B p eb xb w2 x) := hT3; have HK3 : Hid (Kp [88] B p eb w w2) := (((Kp.below (Below.refl _ _).drew (HL.out).stat.size).trans (HK2.out).up).trans hK3); clear hL3 hT3 hK3;
         have HS2 : Hid (HeadAt E H p w2) := (HL3.out).head))
 clear HS0 HS1 HS2 HL2 HT2 HK2
 have hp1 : (mLoad E s (cStatus E E.me)).2.pos ≤ E.seen.length := (mAsk_pos E s _ hpos).2
 have HLi1 : Hid ((mLoad E s (cStatus E E.me)).2.list = s.list) := mAsk_list E s _
 generalize hq1 : mLoad E s (cStatus E E.me) = q1 at *
 obtain ⟨v1, s1⟩ := q1
 have HQ1 : Hid (mLoad E s (cStatus E E.me) = (v1, s1)) := hq1
 clear hq1
 have hov := (HL3.out).over
 simp only at hov hp1
 by_cases hmk : s1.over = false ∧ 0 < v1.tmod 8
 ·have HF : Hid (R = (5, s1, x)) := (HR.out).symm.trans (mCommit_mark E s x HQ1.out hmk)
  obtain ⟨hm1, hm8⟩ := hmk
  go_wp2
  go_ret
  exact ⟨by rw [HF.out]; rfl, by rw [HF.out]; exact HL3.out, by rw [HF.out]; exact HT3.out, (HK3.out).wide (by simp)⟩
 ·cases ho1 : s1.over with
  | true =>
   have HF : Hid (R = (-1, s1, x)) := (HR.out).symm.trans (mCommit_dead E s x HQ1.out ho1)
   have HD : Hid (mLoad E s1 0 = (0, s1)) := mAsk_dead ho1
   have HL3' : Hid (LifeR E H B p eb w2 s1) := HL3
   clear HL3 hmk
   go_wp2
   go_loopg [6] 1 (fun n t wr => Hid (LifeR E H B p eb wr s1) ∧ Hid (TryR B p eb xb wr x) ∧ Hid (Kp [88] B p eb w wr))
   case atStart => exact ⟨HL3', HT3, HK3⟩
   case round =>
    obtain ⟨HLr, HTr, HKr⟩ := hrel
    have hovr := (HLr.out).over
    rw [ho1] at hovr
    go_wp2_with fail
    refine (load_at E HE.out H B p eb xb _ _ _ _ HLr.out HTr.out hp1).mono ?_
    rintro e w3 ⟨rfl, hLa, hTa, hKa⟩
    rw [show mLoad E s1 0 = (0, s1) from HD.out] at hLa ⊢
    have hova := hLa.over
    rw [ho1] at hova
    have HLa : Hid (LifeR E H B p eb w3 s1) := hLa
    have HTa : Hid (TryR B p eb xb w3 x) := hTa
    have HKa : Hid (Kp [88] B p eb wr w3) := hKa
    clear hLa hTa hKa hov hovr
    go_wp2
    go_ret
    exact ⟨by rw [HF.out]; rfl, by rw [HF.out]; exact HLa.out, by rw [HF.out]; exact HTa.out, ((HKr.out).trans HKa.out).wide (by simp)⟩
  | false =>
   have hm8 : ¬ 0 < v1.tmod 8 := fun h => hmk ⟨ho1, h⟩
   have HG0 : Hid (mGated E (mGate E (loopFuel E s1) s1 x).1 (mGate E (loopFuel E s1) s1 x).2 = R) := (mCommit_gate E s x HQ1.out hmk).symm.trans HR.out
   have HL3' : Hid (LifeR E H B p eb w2 s1) := HL3
   have HK3' : Hid (Kp [88, 145] B p eb w w2) := (HK3.out).wide (by simp)
   clear HL3 hmk
   go_wp2
   go_loopg [6] (loopFuel E s1) (fun n t wr => ∃ (sk : LS) (ig : Bool), Hid (mGated E (mGate E n sk { x with inGate := ig }).1 (mGate E n sk { x with inGate := ig }).2 = R) ∧ Hid (enough E sk n) ∧ Hid (LifeR E H B p eb wr sk) ∧ Hid (TryR B p eb xb wr { x with inGate := ig }) ∧ Hid (Kp [88, 145] B p eb w wr) ∧ sk.pos ≤ E.seen.length ∧ Hid (sk.list = s.list))
   case atStart => exact ⟨s1, x.inGate, HG0, enough_fuel E s1, HL3', HT3, HK3', hp1, HLi1⟩
   case round =>
    obtain ⟨sk, ig, HG, HEn, HLr, HTr, HKr, hpk, HLi⟩ := hrel
    clear HG0 HL3' HT3 HK3' HK3 HLi1 hov ho1 hm8 HQ1 hp1
    obtain ⟨n, rfl⟩ : ∃ n, gk = n + 1 := ⟨gk - 1, by have := HEn.out.1; omega⟩
    have hovr := (HLr.out).over
    obtain ⟨_, _, _, _, _, _, _, _, hxc, hxf⟩ := (HTr.out).cells
    have hx11 : wr.cell? ⟨xb, 11, none⟩ = some (.bool ig) := by rw [hxc]; rfl
    have hf11 := hxf 11
    clear hxc hxf
    by_cases hstop : sk.over = true ∨ ig = true
    ·have HG2 : Hid (mGated E sk { x with inGate := ig } = R) := by
      have := HG.out
      rw [mGate_stop E (n + 1) sk { x with inGate := ig } hstop] at this
      exact this
     clear HG HEn
     have HSt : Hid (sk.over = true ∨ ig = true) := hstop
     have hcs : sk.over = true ∨ (sk.over = false ∧ ig = true) := by
      cases h : sk.over with
      | true => exact Or.inl rfl
      | false => exact Or.inr ⟨rfl, hstop.resolve_left (by rw [h]; simp)⟩
     clear hstop
     rcases hcs with ho | ⟨ho, hig⟩
     ·have HD : Hid (mLoad E sk 0 = (0, sk)) := mAsk_dead ho
      have HF : Hid (R = (-1, sk, { x with inGate := ig })) := by
       refine (HG2.out).symm.trans ?_
       unfold mGated
       simp only [show mLoad E sk 0 = (0, sk) from HD.out]
       exact if_pos ho
      clear HG2
      go_wp2_with fail
      refine (load_at E HE.out H B p eb xb _ _ _ _ HLr.out HTr.out hpk).mono ?_
      rintro e w3 ⟨rfl, hLa, hTa, hKa⟩
      rw [show mLoad E sk 0 = (0, sk) from HD.out] at hLa ⊢
      have hova := hLa.over
      rw [ho] at hova
      have HLa : Hid (LifeR E H B p eb w3 sk) := hLa
      have HTa : Hid (TryR B p eb xb w3 { x with inGate := ig }) := hTa
      have HKa : Hid (Kp [88] B p eb wr w3) := hKa
      clear hLa hTa hKa hovr hx11 hf11
      go_wp2
      go_ret
      exact ⟨by rw [HF.out]; rfl, by rw [HF.out]; exact HLa.out, by rw [HF.out]; exact HTa.out, ((HKr.out).wide (by simp)).trans ((HKa.out).wide (by simp))⟩
     ·subst hig
      go_wp2_with fail
      refine (load_at E HE.out H B p eb xb _ _ _ _ HLr.out HTr.out hpk).mono ?_
      rintro e w3 ⟨rfl, hLa, hTa, hKa⟩
      clear hovr hx11 hf11
      obtain ⟨y, hy⟩ : ∃ y : TS, y = { x with inGate := true } := ⟨_, rfl⟩
      have HY : Hid (y.reads = x.reads ∧ y.writes = x.writes ∧ y.held = x.held ∧ y.valid = x.valid) := by rw [hy]; exact ⟨rfl, rfl, rfl, rfl⟩
      rw [← hy] at hTa HG2
      have HKa : Hid (Kp [88, 145] B p eb w w3) := (HKr.out).trans (hKa.wide (by simp))
      have hp3 : (mLoad E sk 0).2.pos ≤ E.seen.length := (mAsk_pos E sk _ hpk).2
      have HLi3 : Hid ((mLoad E sk 0).2.list = s.list) := (mAsk_list E sk _).trans HLi.out
      have hval : -1 ≤ (mLoad E sk 0).1 ∧ (mLoad E sk 0).1 ≤ 1125899906842624 := mAsk_val E HE.out sk _
      have HUn : Hid (R = (if (mLoad E sk 0).2.over then (-1, (mLoad E sk 0).2, y) else
             if (if (mLoad E sk 0).1 ≠ y.valid then mStill E y true y.reads (mLoad E sk 0).2 else (0, (mLoad E sk 0).2)).1 ≠ 0 then ((if (mLoad E sk 0).1 ≠ y.valid then mStill E y true y.reads (mLoad E sk 0).2 else (0, (mLoad E sk 0).2)).1, (if (mLoad E sk 0).1 ≠ y.valid then mStill E y true y.reads (mLoad E sk 0).2 else (0, (mLoad E sk 0).2)).2, y) else
             (fun (c : Int) (s4 : LS) => (if (mStore E (y.held.foldl (shutStep E) s4) 0 (c + 1)).2.over then (-1, (mStore E (y.held.foldl (shutStep E) s4) 0 (c + 1)).2, y) else
                    (1, y.held.foldl (openStep E c) (y.writes.foldl (writeStep E) (mStore E { (mStore E (y.held.foldl (shutStep E) s4) 0 (c + 1)).2 with list := modLast (mStore E (y.held.foldl (shutStep E) s4) 0 (c + 1)).2.list fun a => { a with stamp := c + 1 } } 2 0).2), y)))
              (mLoad E sk 0).1 (if (mLoad E sk 0).1 ≠ y.valid then mStill E y true y.reads (mLoad E sk 0).2 else (0, (mLoad E sk 0).2)).2)) := (HG2.out).symm
      clear HG2 hKa hy
      generalize hq2 : mLoad E sk 0 = q2 at *
      obtain ⟨c, s3⟩ := q2
      clear hq2
      have hova := hLa.over
      have HLa : Hid (LifeR E H B p eb w3 s3) := hLa
      have HTa : Hid (TryR B p eb xb w3 y) := hTa
      clear hLa hTa HLr HTr HKr
      simp only at hova hp3 hval
      cases ho3 : s3.over with
      | true =>
       have HF : Hid (R = (-1, s3, y)) := (HUn.out).trans (if_pos ho3)
       clear HUn
       go_wp2
       go_ret
       exact ⟨by rw [HF.out]; rfl, by rw [HF.out]; exact HLa.out, by rw [HF.out]; exact HTa.out, (HKa.out).wide (by simp)⟩
      | false =>
       have HU2 : Hid (R = _) := (HUn.out).trans (if_neg (by simp [ho3]))
       clear HUn
       obtain ⟨_, _, _, _, _, _, _, _, hxc, _⟩ := (HTa.out).cells
       have hx7 : w3.cell? ⟨xb, 7, none⟩ = some (.int .i64 y.valid) := by rw [hxc]; rfl
       clear hxc
       by_cases hcv : c = y.valid
       focus
        have hbv : (c != y.valid) = false := by simp [hcv]
        have HU3 : Hid (R = (if (mStore E (y.held.foldl (shutStep E) s3) 0 (c + 1)).2.over then (-1, (mStore E (y.held.foldl (shutStep E) s3) 0 (c + 1)).2, y) else
               (1, y.held.foldl (openStep E c) (y.writes.foldl (writeStep E) (mStore E { (mStore E (y.held.foldl (shutStep E) s3) 0 (c + 1)).2 with list := modLast (mStore E (y.held.foldl (shutStep E) s3) 0 (c + 1)).2.list fun a => { a with stamp := c + 1 } } 2 0).2), y))) := by
         show _ = _
         rw [HU2.out]
         simp only [if_neg (show ¬ (c ≠ y.valid) from fun h => h hcv)]
         rfl
        clear HU2 hcv
        obtain ⟨w4, hw4⟩ : ∃ w4, w4 = w3 := ⟨_, rfl⟩
        obtain ⟨s4, hs4⟩ : ∃ s4, s4 = s3 := ⟨_, rfl⟩
        subst hw4 hs4
        have HL4 := HLa
        have HT4 := HTa
        have HK4 := HKa
        have HLi4 := HLi3
        have hp4 := hp3
        go_wp2
        clear hova ho3 HLa HTa HKa HLi3 hp3 hx7 hbv
       rotate_left
       focus
        have hbv : (c != y.valid) = true := by simp [hcv]
        have HCV : Hid (¬ c = y.valid) := hcv
        clear hcv
        go_wp2_with fail
        refine (still_any E HE.out H B p eb xb s3 y true _ HLa.out HTa.out hp3 (by rw [(HY.out).1]; omega) (by rw [(HY.out).2.2.1]; omega) (by rw [(HY.out).1]; exact HST.out)).mono ?_
        rintro e w4 ⟨rfl, hLb, hTb, hKb⟩
        have hp4' : (mStill E y true y.reads s3).2.pos ≤ E.seen.length := (mStill_pos E y true y.reads s3 hp3).2
        have HLi4' : Hid ((mStill E y true y.reads s3).2.list = s.list) := (mStill_list E y true y.reads s3).trans HLi3.out
        have HU3 : Hid (R = (if (mStill E y true y.reads s3).1 ≠ 0 then ((mStill E y true y.reads s3).1, (mStill E y true y.reads s3).2, y) else
               (fun (s4 : LS) => (if (mStore E (y.held.foldl (shutStep E) s4) 0 (c + 1)).2.over then (-1, (mStore E (y.held.foldl (shutStep E) s4) 0 (c + 1)).2, y) else
                     (1, y.held.foldl (openStep E c) (y.writes.foldl (writeStep E) (mStore E { (mStore E (y.held.foldl (shutStep E) s4) 0 (c + 1)).2 with list := modLast (mStore E (y.held.foldl (shutStep E) s4) 0 (c + 1)).2.list fun a => { a with stamp := c + 1 } } 2 0).2), y))) (mStill E y true y.reads s3).2)) := by
         show _ = _
         rw [HU2.out]
         simp only [if_pos (show c ≠ y.valid from HCV.out)]
        clear HU2
        generalize hq4 : mStill E y true y.reads s3 = q4 at *
        obtain ⟨e4, s4⟩ := q4
        clear hq4
        have HL4 : Hid (LifeR E H B p eb w4 s4) := hLb
        have HT4 : Hid (TryR B p eb xb w4 y) := hTb
        have HK4 : Hid (Kp [88, 145] B p eb w w4) := (HKa.out).trans (hKb.wide (by simp))
        have HLi4 : Hid (s4.list = s.list) := HLi4'
        have hp4 : s4.pos ≤ E.seen.length := hp4'
        clear hLb hTb hKb HLi4' hp4' hova ho3 hx7 hbv HLa HTa HKa HLi3 hp3
        by_cases he4 : e4 = 0
        focus
         subst he4
         have HU4 : Hid (R = (if (mStore E (y.held.foldl (shutStep E) s4) 0 (c + 1)).2.over then (-1, (mStore E (y.held.foldl (shutStep E) s4) 0 (c + 1)).2, y) else
               (1, y.held.foldl (openStep E c) (y.writes.foldl (writeStep E) (mStore E { (mStore E (y.held.foldl (shutStep E) s4) 0 (c + 1)).2 with list := modLast (mStore E (y.held.foldl (shutStep E) s4) 0 (c + 1)).2.list fun a => { a with stamp := c + 1 } } 2 0).2), y))) := (HU3.out).trans (if_neg (by simp))
         clear HU3
         have HU3 := HU4
         clear HU4
         go_wp2
        rotate_left
        focus
         have hbe : (e4 != 0) = true := by simp [he4]
         have HF : Hid (R = (e4, s4, y)) := (HU3.out).trans (if_pos he4)
         clear HU3 he4
         go_wp2
         go_ret
         exact ⟨by rw [HF.out]; rfl, by rw [HF.out]; exact HL4.out, by rw [HF.out]; exact HT4.out, (HK4.out).wide (by simp)⟩
       all_goals
        have HHDy : Hid (∀ h ∈ y.held, -8 ≤ h ∧ h ≤ 8) := by have := HHD.out; rw [← (HY.out).2.2.1] at this; exact this
        have HWRy : Hid (∀ e ∈ y.writes, -70000 ≤ e.what ∧ e.what ≤ 1125899906842624) := by have := HWR.out; rw [← (HY.out).2.1] at this; exact this
        have hmy2 : y.held.length ≤ 2 ^ 40 := by rw [(HY.out).2.2.1]; exact hm2
        have hmy3 : y.writes.length ≤ 2 ^ 40 := by rw [(HY.out).2.1]; exact hm3
        obtain ⟨hva, hvb⟩ := hval
        have hwc : IntKind.i64.wrap (c + 1) = c + 1 := wrapJ _ (by omega) (by omega)
        go_loopw [9] (fun i wr => ∃ k : Nat, k ≤ y.held.length ∧ i = .int .i64 k ∧ Hid (LifeR E H B p eb wr ((y.held.take k).foldl (shutStep E) s4)) ∧ Hid (TryR B p eb xb wr y) ∧ Hid (Kp [88, 145] B p eb w wr)) (fun i wr => y.held.length - (intOf i).toNat)
        case atStart => exact ⟨0, Nat.zero_le _, rfl, HL4, HT4, HK4⟩
        case round =>
         obtain ⟨k, hk, rfl, HL5, HT5, HK5⟩ := hrel
         clear HL4 HT4 HK4
         obtain ⟨ha1, hc1, hh1, hn1⟩ := (HT5.out).held
         have HPk : Hid (((y.held.take k).foldl (shutStep E) s4).pos ≤ E.seen.length) := (foldl_pos E _ (shutStep_pos E) _ s4 hp4).2
         by_cases hlt : k < y.held.length
         ·obtain ⟨b, rfl, hcc⟩ := hn1 k hlt
          obtain ⟨z, hz⟩ : ∃ z, z = y.held.getD k 0 := ⟨_, rfl⟩
          have hzm : z ∈ y.held := by rw [hz]; simp [List.getD, List.getElem?_eq_getElem hlt]
          obtain ⟨hz1, hz2⟩ := HHDy.out z hzm
          rw [← hz] at hcc
          have HZ : Hid (z = y.held.getD k 0) := hz
          clear hz hzm hn1
          have HS0 : Hid (HeadAt E H p wr.drew ∧ wr.drew.cell? ⟨xb, 10, none⟩ = some (.slice (some ⟨b, 0, none⟩) y.held.length hc1) ∧ wr.drew.cell? ⟨b, k, none⟩ = some (.int .i64 z)) := ⟨(HL5.out).drew.head, hh1, hcc⟩
          go_wp2_with fail
          go_region_held3 (fun w' => HeadAt E H p w' ∧ w'.cell? ⟨xb, 10, none⟩ = some (.slice (some ⟨b, 0, none⟩) y.held.length hc1) ∧ w'.cell? ⟨b, k, none⟩ = some (.int .i64 z))
           (first | exact HS2.out | exact HS1.out | exact HS0.out)
           (first
               | (go_at_call 99; refine (version_at E HE.out H B p eb xb _ _ _ _ (HL5.out).drew (HT5.out).drew (by omega) (by omega)).mono ?_; rintro e w5 ⟨rfl, hL2, hT2, hK2⟩; have HL6 : Hid (LifeR E H B p eb w5 _) := hL2; have HT6 : Hid (TryR B p eb xb w5 y) := hT2; have HK6 : Hid (Kp [] B p eb wr w5) := (Kp.below (Below.refl _ _).drew (HL5.out).stat.size).trans hK2; clear hL2 hT2 hK2;
                  have HS1 : Hid (HeadAt E H p w5 ∧ w5.cell? ⟨xb, 10, none⟩ = some (.slice (some ⟨b, 0, none⟩) y.held.length hc1) ∧ w5.cell? ⟨b, k, none⟩ = some (.int .i64 z)) := ⟨(HL6.out).head, (((HT5.out).heldKeep HK6.out (by simp) (by simp) hh1 (by omega)).1), (((HT5.out).heldKeep HK6.out (by simp) (by simp) hh1 (by omega)).2 k).trans hcc⟩)
               | (go_at_call 87; refine (store_at E HE.out H B p eb xb _ _ _ _ _ HL6.out HT6.out HPk.out).mono ?_; rintro e w6 ⟨rfl, hL3, hT3, hK3⟩; have HL7 : Hid (LifeR E H B p eb w6 (shutStep E ((y.held.take k).foldl (shutStep E) s4) z)) := hL3; have HT7 : Hid (TryR B p eb xb w6 y) := hT3; have HK7 : Hid (Kp [88] B p eb wr w6) := (HK6.out).up.trans hK3; clear hL3 hT3 hK3;
                  have HS2 : Hid (HeadAt E H p w6 ∧ w6.cell? ⟨xb, 10, none⟩ = some (.slice (some ⟨b, 0, none⟩) y.held.length hc1) ∧ w6.cell? ⟨b, k, none⟩ = some (.int .i64 z)) := ⟨(HL7.out).head, (((HT5.out).heldKeep HK7.out (by simp) (by simp) hh1 (by omega)).1), (((HT5.out).heldKeep HK7.out (by simp) (by simp) hh1 (by omega)).2 k).trans hcc⟩))
          go_wp2
          go_roundw
          case rel => exact ⟨k + 1, by omega, by go_num, by show LifeR _ _ _ _ _ _ _; rw [take_foldl _ _ _ _ 0 hlt, ← HZ.out]; exact HL7.out, HT7, (HK5.out).trans ((HK7.out).wide (by simp))⟩
          case measure => simp [intOf]; omega
         ·have HEq : Hid ((y.held.take k).foldl (shutStep E) s4 = y.held.foldl (shutStep E) s4) := by
           show _ = _
           rw [List.take_of_length_le (by omega)]
          rw [show (y.held.take k).foldl (shutStep E) s4 = y.held.foldl (shutStep E) s4 from HEq.out] at HL5 HPk
          have HLi5 : Hid ((y.held.foldl (shutStep E) s4).list = s.list) := (foldl_list _ (fun s a => mAsk_list E s _) y.held s4).trans HLi4.out
          generalize y.held.foldl (shutStep E) s4 = s5 at *
          clear hn1 HEq
          go_wp2_with fail
          refine (store_at E HE.out H B p eb xb _ _ _ _ _ HL5.out HT5.out HPk.out).mono ?_
          rintro e w5 ⟨rfl, hLb, hTb, hKb⟩
          have hp6 : (mStore E s5 0 (c + 1)).2.pos ≤ E.seen.length := (mAsk_pos E s5 _ HPk.out).2
          have HLi6 : Hid ((mStore E s5 0 (c + 1)).2.list = s.list) := (mAsk_list E s5 _).trans HLi5.out
          have HK6 : Hid (Kp [88, 145] B p eb w w5) := (HK5.out).trans (hKb.wide (by simp))
          generalize mStore E s5 0 (c + 1) = q6 at *
          obtain ⟨v6, s6⟩ := q6
          have HL6 : Hid (LifeR E H B p eb w5 s6) := hLb
          have HT6 : Hid (TryR B p eb xb w5 y) := hTb
          have hov6 := hLb.over
          clear hLb hTb hKb HL5 HT5 HK5 HPk HLi5 hh1
          simp only at hov6 hp6
          cases ho6 : s6.over with
          | true =>
           have HF : Hid (R = (-1, s6, y)) := (HU3.out).trans (if_pos ho6)
           clear HU3
           go_wp2
           go_ret
           exact ⟨by rw [HF.out]; rfl, by rw [HF.out]; exact HL6.out, by rw [HF.out]; exact HT6.out, (HK6.out).wide (by simp)⟩
          | false =>
           have HU4 : Hid (R = (1, y.held.foldl (openStep E c) (y.writes.foldl (writeStep E) (mStore E { s6 with list := modLast s6.list fun a => { a with stamp := c + 1 } } 2 0).2), y)) := (HU3.out).trans (if_neg (by simp [ho6]))
           clear HU3
           obtain ⟨g, lc, n, cur, hn, hb, hl, hgb, hgB, hsz⟩ := (HL6.out).last (by rw [show s6.list = s.list from HLi6.out]; exact HNE.out)
           have hn42 : (n : Int) ≤ 4398046511104 := by
            have : s6.list.length = s.list.length := by rw [show s6.list = s.list from HLi6.out]
            omega
           have hc21 : w5.cell? ⟨p, 21, none⟩ = some (.slice (some ⟨g, 0, none⟩) (n + 1) lc) := by rw [hb.cell]; simp [lifeArr, hn]
           obtain ⟨u5, hg5⟩ : ∃ u, w5.cell? ⟨g, n * 8 + 5, none⟩ = some u := ⟨cur[n * 8 + 5]'(by omega), by rw [hgb.cell]; exact Array.getElem?_eq_getElem _⟩
           have hfg := hgb.frozen (n * 8 + 5)
           have hI0 : (0 : Int) ≤ (n : Int) := Int.natCast_nonneg _
           have hI2 : (n : Int) < (n : Int) + 1 := by omega
           have hpg : p ≠ g := Blk.ne hb hgb (by decide)
           have hgp : g ≠ p := fun e => hpg e.symm
           have HN : Hid (s6.list.length = n + 1) := hn
           have HBk : Hid (Blk w5 p 88 (lifeArr E H (some ⟨g, 0, none⟩) lc s6)) := hb
           have HRp : Hid (ListRep w5 B (some ⟨g, 0, none⟩) lc s6.list) := hl
           have HG : Hid (Blk w5 g 63 cur) := hgb
           clear hn hb hl hgb
           go_wp2_with fail
           go_region
           all_goals
            have hLK := (HL6.out).num (j := 5) (v := c + 1) (f := fun a => { a with stamp := c + 1 }) HN.out HBk.out HRp.out HG.out hgB (by omega) (fun _ _ => rfl) (fun _ => rfl)
            have HL7 : Hid (LifeR E H B p eb (w5.setCell ⟨g, n * 8 + 5, none⟩ (.int .i64 (c + 1))).drew { s6 with list := modLast s6.list fun a => { a with stamp := c + 1 } }) := hLK.1.drew
            have HT7 : Hid (TryR B p eb xb (w5.setCell ⟨g, n * 8 + 5, none⟩ (.int .i64 (c + 1))).drew y) := ((HT6.out).keep hLK.2 (by simp) (by simp) (by simp)).drew
            have HK7 : Hid (Kp [88, 145, 63] B p eb w (w5.setCell ⟨g, n * 8 + 5, none⟩ (.int .i64 (c + 1))).drew) := (((HK6.out).wide (by simp)).trans (hLK.2.wide (by simp))).drew
            clear hLK hov6 hg5 hfg
            go_wp2_with fail
            refine (store_at E HE.out H B p eb xb _ _ _ _ _ HL7.out HT7.out hp6).mono ?_
            rintro e w7 ⟨rfl, hLb, hTb, hKb⟩
            have HK8 : Hid (Kp [88, 145, 63] B p eb w w7) := (HK7.out).trans (hKb.wide (by simp))
            have hp8 : (mStore E { s6 with list := modLast s6.list fun a => { a with stamp := c + 1 } } 2 0).2.pos ≤ E.seen.length := (mAsk_pos E { s6 with list := modLast s6.list fun a => { a with stamp := c + 1 } } _ hp6).2
            generalize mStore E { s6 with list := modLast s6.list fun a => { a with stamp := c + 1 } } 2 0 = q8 at *
            obtain ⟨v8, s8⟩ := q8
            have HL8 : Hid (LifeR E H B p eb w7 s8) := hLb
            have HT8 : Hid (TryR B p eb xb w7 y) := hTb
            simp only at hp8
            clear hLb hTb hKb HL7 HT7 HK7 HL6 HT6 HK6 hc21 HN HBk HRp HG HLi6
            go_wp2
            go_loopw [10] (fun i wr => ∃ k : Nat, k ≤ y.writes.length ∧ i = .int .i64 k ∧ Hid (LifeR E H B p eb wr ((y.writes.take k).foldl (writeStep E) s8)) ∧ Hid (TryR B p eb xb wr y) ∧ Hid (Kp [88, 145, 63] B p eb w wr)) (fun i wr => y.writes.length - (intOf i).toNat)
            case atStart => exact ⟨0, Nat.zero_le _, rfl, HL8, HT8, HK8⟩
            case round =>
             obtain ⟨k, hk, rfl, HL9, HT9, HK9⟩ := hrel
             clear HL8 HT8 HK8
             obtain ⟨wa1, wc1, hw1, hn1⟩ := (HT9.out).writes
             have HPk : Hid (((y.writes.take k).foldl (writeStep E) s8).pos ≤ E.seen.length) := (foldl_pos E _ (writeStep_pos E) _ s8 hp8).2
             by_cases hlt : k < y.writes.length
             ·obtain ⟨b, rfl, hc0, hc1, _⟩ := hn1 k hlt
              obtain ⟨z, hz⟩ : ∃ z, z = y.writes.getD k ⟨0, 0⟩ := ⟨_, rfl⟩
              have hzm : z ∈ y.writes := by rw [hz]; simp [List.getD, List.getElem?_eq_getElem hlt]
              obtain ⟨hz1, hz2⟩ := HWRy.out z hzm
              rw [← hz] at hc0 hc1
              have HZ : Hid (z = y.writes.getD k ⟨0, 0⟩) := hz
              clear hz hzm hn1
              have HS0 : Hid (HeadAt E H p wr.drew ∧ wr.drew.cell? ⟨xb, 9, none⟩ = some (.slice (some ⟨b, 0, none⟩) y.writes.length wc1) ∧ wr.drew.cell? ⟨b, k * 2, none⟩ = some (.int .i64 z.what) ∧ wr.drew.cell? ⟨b, k * 2 + 1, none⟩ = some (.int .i64 z.val)) := ⟨(HL9.out).drew.head, hw1, hc0, hc1⟩
              go_wp2_with fail
              go_region_held3 (fun w' => HeadAt E H p w' ∧ w'.cell? ⟨xb, 9, none⟩ = some (.slice (some ⟨b, 0, none⟩) y.writes.length wc1) ∧ w'.cell? ⟨b, k * 2, none⟩ = some (.int .i64 z.what) ∧ w'.cell? ⟨b, k * 2 + 1, none⟩ = some (.int .i64 z.val))
               (first | exact HS2.out | exact HS1.out | exact HS0.out)
               (first
                   | (go_at_call 72; refine (word_at E HE.out H B p eb xb _ _ _ _ (HL9.out).drew (HT9.out).drew (by omega) (by omega)).mono ?_; rintro e w9 ⟨rfl, hL2, hT2, hK2⟩; have HL10 : Hid (LifeR E H B p eb w9 _) := hL2; have HT10 : Hid (TryR B p eb xb w9 y) := hT2; have HK10 : Hid (Kp [] B p eb wr w9) := (Kp.below (Below.refl _ _).drew (HL9.out).stat.size).trans hK2; clear hL2 hT2 hK2;
                      have HS1 : Hid (HeadAt E H p w9 ∧ w9.cell? ⟨xb, 9, none⟩ = some (.slice (some ⟨b, 0, none⟩) y.writes.length wc1) ∧ w9.cell? ⟨b, k * 2, none⟩ = some (.int .i64 z.what) ∧ w9.cell? ⟨b, k * 2 + 1, none⟩ = some (.int .i64 z.val)) := ⟨(HL10.out).head, (((HT9.out).writesKeep HK10.out (by simp) (by simp) hw1 (by omega)).1), (((HT9.out).writesKeep HK10.out (by simp) (by simp) hw1 (by omega)).2 _).trans hc0, (((HT9.out).writesKeep HK10.out (by simp) (by simp) hw1 (by omega)).2 _).trans hc1⟩)
                   | (go_at_call 87; refine (store_at E HE.out H B p eb xb _ _ _ _ _ HL10.out HT10.out HPk.out).mono ?_; rintro e w10 ⟨rfl, hL3, hT3, hK3⟩; have HL11 : Hid (LifeR E H B p eb w10 (writeStep E ((y.writes.take k).foldl (writeStep E) s8) z)) := hL3; have HT11 : Hid (TryR B p eb xb w10 y) := hT3; have HK11 : Hid (Kp [88] B p eb wr w10) := (HK10.out).up.trans hK3; clear hL3 hT3 hK3;
                      have HS2 : Hid (HeadAt E H p w10 ∧ w10.cell? ⟨xb, 9, none⟩ = some (.slice (some ⟨b, 0, none⟩) y.writes.length wc1) ∧ w10.cell? ⟨b, k * 2, none⟩ = some (.int .i64 z.what) ∧ w10.cell? ⟨b, k * 2 + 1, none⟩ = some (.int .i64 z.val)) := ⟨(HL11.out).head, (((HT9.out).writesKeep HK11.out (by simp) (by simp) hw1 (by omega)).1), (((HT9.out).writesKeep HK11.out (by simp) (by simp) hw1 (by omega)).2 _).trans hc0, (((HT9.out).writesKeep HK11.out (by simp) (by simp) hw1 (by omega)).2 _).trans hc1⟩))
              go_wp2
              go_roundw
              case rel => exact ⟨k + 1, by omega, by go_num, by show LifeR _ _ _ _ _ _ _; rw [take_foldl _ _ _ _ ⟨0, 0⟩ hlt, ← HZ.out]; exact HL11.out, HT11, (HK9.out).trans ((HK11.out).wide (by simp))⟩
              case measure => simp [intOf]; omega
             ·have HEq : Hid ((y.writes.take k).foldl (writeStep E) s8 = y.writes.foldl (writeStep E) s8) := by
               show _ = _
               rw [List.take_of_length_le (by omega)]
              rw [show (y.writes.take k).foldl (writeStep E) s8 = y.writes.foldl (writeStep E) s8 from HEq.out] at HL9 HPk
              generalize y.writes.foldl (writeStep E) s8 = s9 at *
              have hp9 : s9.pos ≤ E.seen.length := HPk.out
              clear hn1 HEq HPk
              go_wp2
              clear hw1
              go_loopw [11] (fun i wr => ∃ k : Nat, k ≤ y.held.length ∧ i = .int .i64 k ∧ Hid (LifeR E H B p eb wr ((y.held.take k).foldl (openStep E c) s9)) ∧ Hid (TryR B p eb xb wr y) ∧ Hid (Kp [88, 145, 63] B p eb w wr)) (fun i wr => y.held.length - (intOf i).toNat)
              case atStart => exact ⟨0, Nat.zero_le _, rfl, HL9, HT9, HK9⟩
              case round =>
               obtain ⟨k, hk, rfl, HLo, HTo, HKo⟩ := hrel
               clear HL9 HT9 HK9
               obtain ⟨ha1, hc1, hh1, hn1⟩ := (HTo.out).held
               have HPk : Hid (((y.held.take k).foldl (openStep E c) s9).pos ≤ E.seen.length) := (foldl_pos E _ (openStep_pos E c) _ s9 hp9).2
               by_cases hlt : k < y.held.length
               ·obtain ⟨b, rfl, hcc⟩ := hn1 k hlt
                obtain ⟨z, hz⟩ : ∃ z, z = y.held.getD k 0 := ⟨_, rfl⟩
                have hzm : z ∈ y.held := by rw [hz]; simp [List.getD, List.getElem?_eq_getElem hlt]
                obtain ⟨hz1, hz2⟩ := HHDy.out z hzm
                rw [← hz] at hcc
                have HZ : Hid (z = y.held.getD k 0) := hz
                clear hz hzm hn1
                obtain ⟨so, hso⟩ : ∃ so, so = (y.held.take k).foldl (openStep E c) s9 := ⟨_, rfl⟩
                rw [← hso] at HLo HPk
                have HSo : Hid (so = (y.held.take k).foldl (openStep E c) s9) := hso
                clear hso
                have HS0 : Hid (HeadAt E H p wr.drew ∧ wr.drew.cell? ⟨xb, 10, none⟩ = some (.slice (some ⟨b, 0, none⟩) y.held.length hc1) ∧ wr.drew.cell? ⟨b, k, none⟩ = some (.int .i64 z)) := ⟨(HLo.out).drew.head, hh1, hcc⟩
                go_wp2_with fail
                go_region_held3 (fun w' => HeadAt E H p w' ∧ w'.cell? ⟨xb, 10, none⟩ = some (.slice (some ⟨b, 0, none⟩) y.held.length hc1) ∧ w'.cell? ⟨b, k, none⟩ = some (.int .i64 z))
                 (first | exact HS2.out | exact HS1.out | exact HS0.out)
                 (first
                     | (go_at_call 99; refine (version_at E HE.out H B p eb xb _ _ _ _ (HLo.out).drew (HTo.out).drew (by omega) (by omega)).mono ?_; rintro e wA ⟨rfl, hL2, hT2, hK2⟩; have HLA : Hid (LifeR E H B p eb wA so) := hL2; have HTA : Hid (TryR B p eb xb wA y) := hT2; have HKA : Hid (Kp [] B p eb wr wA) := (Kp.below (Below.refl _ _).drew (HLo.out).stat.size).trans hK2; clear hL2 hT2 hK2;
                        have HS1 : Hid (HeadAt E H p wA ∧ wA.cell? ⟨xb, 10, none⟩ = some (.slice (some ⟨b, 0, none⟩) y.held.length hc1) ∧ wA.cell? ⟨b, k, none⟩ = some (.int .i64 z)) := ⟨(HLA.out).head, (((HTo.out).heldKeep HKA.out (by simp) (by simp) hh1 (by omega)).1), (((HTo.out).heldKeep HKA.out (by simp) (by simp) hh1 (by omega)).2 k).trans hcc⟩)
                     | (go_at_call 87; refine (store_at E HE.out H B p eb xb _ _ _ _ _ HLA.out HTA.out HPk.out).mono ?_; rintro e wB ⟨rfl, hL3, hT3, hK3⟩; have HLB : Hid (LifeR E H B p eb wB (mStore E so (cVersion E z) (c + 1)).2) := hL3; have HTB : Hid (TryR B p eb xb wB y) := hT3; have HKB : Hid (Kp [88] B p eb wr wB) := (HKA.out).up.trans hK3; clear hL3 hT3 hK3;
                        have HS2 : Hid (HeadAt E H p wB ∧ wB.cell? ⟨xb, 10, none⟩ = some (.slice (some ⟨b, 0, none⟩) y.held.length hc1) ∧ wB.cell? ⟨b, k, none⟩ = some (.int .i64 z)) := ⟨(HLB.out).head, (((HTo.out).heldKeep HKB.out (by simp) (by simp) hh1 (by omega)).1), (((HTo.out).heldKeep HKB.out (by simp) (by simp) hh1 (by omega)).2 k).trans hcc⟩))
                have hpB : (mStore E so (cVersion E z) (c + 1)).2.pos ≤ E.seen.length := (mAsk_pos E so _ HPk.out).2
                have HQB : Hid (openStep E c so z = (mStore E (mStore E so (cVersion E z) (c + 1)).2 (cOwner E z) 0).2) := rfl
                generalize mStore E so (cVersion E z) (c + 1) = qB at *
                have hhB := ((HTo.out).heldKeep HKB.out (by simp) (by simp) hh1 (by omega)).1
                have hcB : wB.cell? ⟨b, k, none⟩ = some (.int .i64 z) := (((HTo.out).heldKeep HKB.out (by simp) (by simp) hh1 (by omega)).2 k).trans hcc
                have HKo2 : Hid (Kp [88, 145, 63] B p eb w wB) := (HKo.out).trans ((HKB.out).wide (by simp))
                clear HS0 HS1 HS2 HLA HTA HKA hh1 hcc HLo HTo HKo HKB
                have HS0 : Hid (HeadAt E H p wB.drew ∧ wB.drew.cell? ⟨xb, 10, none⟩ = some (.slice (some ⟨b, 0, none⟩) y.held.length hc1) ∧ wB.drew.cell? ⟨b, k, none⟩ = some (.int .i64 z)) := ⟨(HLB.out).drew.head, hhB, hcB⟩
                have hh1 := hhB
                have hcc := hcB
                clear hhB hcB
                go_wp2_with fail
                go_region_held3 (fun w' => HeadAt E H p w' ∧ w'.cell? ⟨xb, 10, none⟩ = some (.slice (some ⟨b, 0, none⟩) y.held.length hc1) ∧ w'.cell? ⟨b, k, none⟩ = some (.int .i64 z))
                 (first | exact HS2.out | exact HS1.out | exact HS0.out)
                 (first
                     | (go_at_call 100; refine (owner_at E HE.out H B p eb xb _ _ _ _ (HLB.out).drew (HTB.out).drew (by omega) (by omega)).mono ?_; rintro e wC ⟨rfl, hL2, hT2, hK2⟩; have HLC : Hid (LifeR E H B p eb wC qB.2) := hL2; have HTC : Hid (TryR B p eb xb wC y) := hT2; have HKC : Hid (Kp [] B p eb wB wC) := (Kp.below (Below.refl _ _).drew (HLB.out).stat.size).trans hK2; clear hL2 hT2 hK2;
                        have HS1 : Hid (HeadAt E H p wC ∧ wC.cell? ⟨xb, 10, none⟩ = some (.slice (some ⟨b, 0, none⟩) y.held.length hc1) ∧ wC.cell? ⟨b, k, none⟩ = some (.int .i64 z)) := ⟨(HLC.out).head, (((HTB.out).heldKeep HKC.out (by simp) (by simp) hh1 (by omega)).1), (((HTB.out).heldKeep HKC.out (by simp) (by simp) hh1 (by omega)).2 k).trans hcc⟩)
                     | (go_at_call 87; refine (store_at E HE.out H B p eb xb _ _ _ _ _ HLC.out HTC.out hpB).mono ?_; rintro e wD ⟨rfl, hL3, hT3, hK3⟩; have HLD : Hid (LifeR E H B p eb wD (mStore E qB.2 (cOwner E z) 0).2) := hL3; have HTD : Hid (TryR B p eb xb wD y) := hT3; have HKD : Hid (Kp [88] B p eb wB wD) := (HKC.out).up.trans hK3; clear hL3 hT3 hK3;
                        have HS2 : Hid (HeadAt E H p wD ∧ wD.cell? ⟨xb, 10, none⟩ = some (.slice (some ⟨b, 0, none⟩) y.held.length hc1) ∧ wD.cell? ⟨b, k, none⟩ = some (.int .i64 z)) := ⟨(HLD.out).head, (((HTB.out).heldKeep HKD.out (by simp) (by simp) hh1 (by omega)).1), (((HTB.out).heldKeep HKD.out (by simp) (by simp) hh1 (by omega)).2 k).trans hcc⟩))
                go_wp2
                go_roundw
                case rel => exact ⟨k + 1, by omega, by go_num, by show LifeR _ _ _ _ _ _ _; rw [take_foldl _ _ _ _ 0 hlt, ← HZ.out, ← HSo.out, HQB.out]; exact HLD.out, HTD, (HKo2.out).trans ((HKD.out).wide (by simp))⟩
                case measure => simp [intOf]; omega
               ·have HEq : Hid ((y.held.take k).foldl (openStep E c) s9 = y.held.foldl (openStep E c) s9) := by
                 show _ = _
                 rw [List.take_of_length_le (by omega)]
                rw [show (y.held.take k).foldl (openStep E c) s9 = y.held.foldl (openStep E c) s9 from HEq.out] at HLo
                clear hn1 HPk HEq
                go_wp2
                go_ret
                exact ⟨by rw [HU4.out]; rfl, by rw [HU4.out]; exact HLo.out, by rw [HU4.out]; exact HTo.out, (HKo.out).wide (by simp)⟩
    ·have hov0 : sk.over = false := by
      cases h : sk.over with
      | false => rfl
      | true => exact absurd (Or.inl h) hstop
     have hig0 : ig = false := by
      cases h : ig with
      | false => rfl
      | true => exact absurd (Or.inr h) hstop
     have HStp : Hid (¬ (sk.over = true ∨ ({ x with inGate := ig } : TS).inGate = true)) := hstop
     have hhd := (HLr.out).head
     clear hstop
     subst hig0
     go_wp2_with fail
     refine (ask_at E HE.out H B p eb xb _ _ _ _ _ _ _ HLr.out HTr.out hpk).mono ?_
     rintro e w3 ⟨rfl, hLa, hTa, hKa⟩
     clear hhd hovr hx11 hf11
     have hpa : (mAsk E sk ⟨3, 2, 0, E.me + 1⟩).2.pos ≤ E.seen.length := (mAsk_pos E sk _ hpk).2
     have HAd : Hid ((mAsk E sk ⟨3, 2, 0, E.me + 1⟩).2.over = true ∨ ((mAsk E sk ⟨3, 2, 0, E.me + 1⟩).2.over = false ∧ (mAsk E sk ⟨3, 2, 0, E.me + 1⟩).2.pos = sk.pos + 1)) := mAsk_adv E sk _ hov0 hpk
     have HLia : Hid ((mAsk E sk ⟨3, 2, 0, E.me + 1⟩).2.list = s.list) := (mAsk_list E sk _).trans HLi.out
     generalize hqa : mAsk E sk ⟨3, 2, 0, E.me + 1⟩ = qa at *
     obtain ⟨va, sa⟩ := qa
     have HG2 : Hid (mGated E (mGate E n sa { x with inGate := va == 0 }).1 (mGate E n sa { x with inGate := va == 0 }).2 = R) := by
      have h1 := HG.out
      rw [mGate_step E n sk { x with inGate := false } HStp.out hqa] at h1
      exact h1
     have HEn2 : Hid (enough E sa n) := enough_next HEn.out hov0 ((HAd.out).imp id (fun h => by have : sa.pos = sk.pos + 1 := h.2; omega)) hpa
     have HLa : Hid (LifeR E H B p eb w3 sa) := hLa
     have HTa : Hid (TryR B p eb xb w3 { x with inGate := false }) := hTa
     have HKa : Hid (Kp [88, 145] B p eb w w3) := (HKr.out).trans (hKa.wide (by simp))
     obtain ⟨_, _, _, _, _, _, _, _, hxc, hxf⟩ := hTa.cells
     have hx11 : w3.cell? ⟨xb, 11, none⟩ = some (.bool false) := by rw [hxc]; rfl
     have hf11 := hxf 11
     clear hqa hLa hTa hKa hxc hxf HG HEn HStp hov0 HAd
     simp only at hpa
     go_wp2
     have hTK := (HTa.out).set (x' := { x with inGate := va == 0 }) (i := 11) (v := .bool (va == 0)) (HLa.out).stat.size rfl rfl rfl rfl (HTa.out).regs (fun _ _ _ _ _ _ _ _ => rfl)
     go_roundg n
     case rel => exact ⟨sa, va == 0, HG2, HEn2, (HLa.out).keep hTK.2 (by simp) (by simp) (by simp) (by simp), hTK.1, (HKa.out).trans (hTK.2.wide (by simp)), hpa, HLia⟩
     case measure => omega
end Go.Proofs.YtejadojilncbjaaGreat
