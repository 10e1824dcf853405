import Derived.Test.YtejadojilncbjaaEnded
namespace Go.Proofs.Ytejadojilncbjaa
open Go.RowKit
set_option linter.unusedVariables false
attribute [local go_sem ↓] Go.wp_at_zero Go.wp_at_succ

theorem TryR.reads {B p eb xb : Nat} {w : World} {x : TS} (h : TryR B p eb xb w x) : ∃ ra rc, w.cell? ⟨xb, 8, none⟩ = some (.slice ra x.reads.length rc) ∧ EntsIn w ra x.reads := by
  obtain ⟨ca, cc, ra, rc, wa, wc, ha, hc, hb, hcd, hcf, h3, h4, h5, h6⟩ := h.blk
  exact ⟨ra, rc, by rw [hb.cell]; rfl, ents_of h3⟩

theorem TryR.readsKeep {chg : List TypeId} {B p eb xb b rc : Nat} {w w' : World} {x : TS} (h : TryR B p eb xb w x) (hk : Kp chg B p eb w w') (h0 : 134 ∉ chg) (h2 : 144 ∉ chg)
    (hh : w.cell? ⟨xb, 8, none⟩ = some (.slice (some ⟨b, 0, none⟩) x.reads.length rc)) (hn : 0 < x.reads.length) :
    w'.cell? ⟨xb, 8, none⟩ = some (.slice (some ⟨b, 0, none⟩) x.reads.length rc) ∧ ∀ i, w'.cell? ⟨b, i, none⟩ = w.cell? ⟨b, i, none⟩ := by
  obtain ⟨ca, cc, ra, rc', wa, wc, ha, hc', hb, hcd, hcf, h3, h4, h5, h6⟩ := h.blk
  refine ⟨by rw [cell_tag hb hk h0]; exact hh, fun i => ?_⟩
  rw [hb.cell] at hh
  obtain ⟨g, cap, cur, hv, _, hg, _⟩ := own_block h3 hn
  simp [tryArr] at hh
  simp at hv
  obtain ⟨rfl, _⟩ := hv
  simp at hh
  obtain ⟨rfl, _⟩ := hh
  exact cell_tag hg hk h2

theorem LifeR.over {E : Env} {H : Hd} {B p eb : Nat} {w : World} {s : LS} (h : LifeR E H B p eb w s) : w.cell? ⟨p, 14, none⟩ = some (.bool s.over) := by
  obtain ⟨la, lc, hb, _⟩ := h.life
  rw [hb.cell]; rfl

/-- A call that only makes new memory, at a life. -/
theorem version_at (E : Env) (hE : EnvOk E) (H : Hd) (B p eb xb : Nat) (s : LS) (x : TS) (n : Int) (w : World) (hL : LifeR E H B p eb w s) (hT : TryR B p eb xb w x) (h3 : -10 ≤ n) (h4 : n ≤ 1125899906842634) :
    Calls Try.prog 80 #[.agg #[.int .i64 E.c.t, .int .i64 E.c.wd, .int .i64 E.c.s, .int .i64 E.c.g, .int .i64 E.c.r, .int .i64 E.c.cp, .int .i64 E.c.f, .slice H.ma H.ml H.mc, .slice H.ja E.jobs.length H.jc], .int .i64 n] w fun e w' =>
      e = .returned (.int .i64 (cVersion E n)) ∧ LifeR E H B p eb w' s ∧ TryR B p eb xb w' x ∧ Kp [] B p eb w w' := by
  refine (versionV _ _ _ _ _ _ _ n _ _ _ _ _ _ w h3 h4).mono ?_
  rintro e w' ⟨rfl, hb⟩
  exact ⟨rfl, hL.below hb, hT.below hb hL.stat.size, Kp.below hb hL.stat.size⟩
theorem owner_at (E : Env) (hE : EnvOk E) (H : Hd) (B p eb xb : Nat) (s : LS) (x : TS) (n : Int) (w : World) (hL : LifeR E H B p eb w s) (hT : TryR B p eb xb w x) (h3 : -10 ≤ n) (h4 : n ≤ 1125899906842634) :
    Calls Try.prog 81 #[.agg #[.int .i64 E.c.t, .int .i64 E.c.wd, .int .i64 E.c.s, .int .i64 E.c.g, .int .i64 E.c.r, .int .i64 E.c.cp, .int .i64 E.c.f, .slice H.ma H.ml H.mc, .slice H.ja E.jobs.length H.jc], .int .i64 n] w fun e w' =>
      e = .returned (.int .i64 (cOwner E n)) ∧ LifeR E H B p eb w' s ∧ TryR B p eb xb w' x ∧ Kp [] B p eb w w' := by
  obtain ⟨_, _, ⟨hs1, hs2⟩, _⟩ := cfgB_true hE.cfg
  refine (ownerV _ _ _ _ _ _ _ n _ _ _ _ _ _ w hs1 hs2 h3 h4).mono ?_
  rintro e w' ⟨rfl, hb⟩
  exact ⟨rfl, hL.below hb, hT.below hb hL.stat.size, Kp.below hb hL.stat.size⟩
theorem status_at (E : Env) (hE : EnvOk E) (H : Hd) (B p eb xb : Nat) (s : LS) (x : TS) (n : Int) (w : World) (hL : LifeR E H B p eb w s) (hT : TryR B p eb xb w x) (h3 : -10 ≤ n) (h4 : n ≤ 1125899906842634) :
    Calls Try.prog 71 #[.agg #[.int .i64 E.c.t, .int .i64 E.c.wd, .int .i64 E.c.s, .int .i64 E.c.g, .int .i64 E.c.r, .int .i64 E.c.cp, .int .i64 E.c.f, .slice H.ma H.ml H.mc, .slice H.ja E.jobs.length H.jc], .int .i64 n] w fun e w' =>
      e = .returned (.int .i64 (cStatus E n)) ∧ LifeR E H B p eb w' s ∧ TryR B p eb xb w' x ∧ Kp [] B p eb w w' := by
  obtain ⟨_, _, ⟨hs1, hs2⟩, _⟩ := cfgB_true hE.cfg
  refine (statusV _ _ _ _ _ _ _ n _ _ _ _ _ _ w hs1 hs2 h3 h4).mono ?_
  rintro e w' ⟨rfl, hb⟩
  exact ⟨rfl, hL.below hb, hT.below hb hL.stat.size, Kp.below hb hL.stat.size⟩
theorem word_at (E : Env) (hE : EnvOk E) (H : Hd) (B p eb xb : Nat) (s : LS) (x : TS) (n : Int) (w : World) (hL : LifeR E H B p eb w s) (hT : TryR B p eb xb w x) (h3 : -70000 ≤ n) (h4 : n ≤ 1125899906842634) :
    Calls Try.prog 35 #[.agg #[.int .i64 E.c.t, .int .i64 E.c.wd, .int .i64 E.c.s, .int .i64 E.c.g, .int .i64 E.c.r, .int .i64 E.c.cp, .int .i64 E.c.f, .slice H.ma H.ml H.mc, .slice H.ja E.jobs.length H.jc], .int .i64 n] w fun e w' =>
      e = .returned (.int .i64 (cWord E n)) ∧ LifeR E H B p eb w' s ∧ TryR B p eb xb w' x ∧ Kp [] B p eb w w' := by
  obtain ⟨⟨ht1, ht2⟩, _, ⟨hs1, hs2⟩, _⟩ := cfgB_true hE.cfg
  refine (wordV _ _ _ _ _ _ _ n _ _ _ _ _ _ w hs1 hs2 ht1 ht2 h3 h4).mono ?_
  rintro e w' ⟨rfl, hb⟩
  exact ⟨rfl, hL.below hb, hT.below hb hL.stat.size, Kp.below hb hL.stat.size⟩
theorem load_at (E : Env) (hE : EnvOk E) (H : Hd) (B p eb xb : Nat) (s : LS) (x : TS) (c : Int) (w : World) (hL : LifeR E H B p eb w s) (hT : TryR B p eb xb w x) (hpos : s.pos ≤ E.seen.length) :
    Calls Try.prog 65 #[.pointer (some ⟨p, 0, none⟩), .int .i64 c] w fun e w' =>
      e = .returned (.int .i64 (mLoad E s c).1) ∧ LifeR E H B p eb w' (mLoad E s c).2 ∧ TryR B p eb xb w' x ∧ Kp [78] B p eb w w' := by
  refine (loadL E hE H B p eb s c w hL hpos).mono ?_
  rintro e w' ⟨he, h1, h2⟩
  exact ⟨he, h1, hT.keep h2 (by simp) (by simp) (by simp), h2⟩
theorem store_at (E : Env) (hE : EnvOk E) (H : Hd) (B p eb xb : Nat) (s : LS) (x : TS) (c t : Int) (w : World) (hL : LifeR E H B p eb w s) (hT : TryR B p eb xb w x) (hpos : s.pos ≤ E.seen.length) :
    Calls Try.prog 70 #[.pointer (some ⟨p, 0, none⟩), .int .i64 c, .int .i64 t] w fun e w' =>
      e = .returned (.int .i64 (mStore E s c t).1) ∧ LifeR E H B p eb w' (mStore E s c t).2 ∧ TryR B p eb xb w' x ∧ Kp [78] B p eb w w' := by
  refine (storeL E hE H B p eb s c t w hL hpos).mono ?_
  rintro e w' ⟨he, h1, h2⟩
  exact ⟨he, h1, hT.keep h2 (by simp) (by simp) (by simp), h2⟩
theorem ask_at (E : Env) (hE : EnvOk E) (H : Hd) (B p eb xb : Nat) (s : LS) (x : TS) (k c f t : Int) (w : World) (hL : LifeR E H B p eb w s) (hT : TryR B p eb xb w x) (hpos : s.pos ≤ E.seen.length) :
    Calls Try.prog 59 #[.pointer (some ⟨p, 0, none⟩), .int .i64 k, .int .i64 c, .int .i64 f, .int .i64 t] w fun e w' =>
      e = .returned (.int .i64 (mAsk E s ⟨k, c, f, t⟩).1) ∧ LifeR E H B p eb w' (mAsk E s ⟨k, c, f, t⟩).2 ∧ TryR B p eb xb w' x ∧ Kp [78] B p eb w w' := by
  refine (askL E hE H B p eb s k c f t w hL hpos).mono ?_
  rintro e w' ⟨he, h1, h2⟩
  exact ⟨he, h1, hT.keep h2 (by simp) (by simp) (by simp), h2⟩

theorem Kp.up {chg : List TypeId} {B p eb : Nat} {w w' : World} (h : Kp [] B p eb w w') : Kp chg B p eb w w' := h.wide (by simp)

theorem mStill_cons (E : Env) (x : TS) (skip : Bool) (k : Nat) (s : LS) (hk : k < x.reads.length) : mStill E x skip (x.reads.drop k) s =
    (if skip && heldB x (x.reads.getD k ⟨0, 0⟩).what then mStill E x skip (x.reads.drop (k + 1)) s else
      if (mLoad E s (cVersion E (x.reads.getD k ⟨0, 0⟩).what)).2.over then (-1, (mLoad E s (cVersion E (x.reads.getD k ⟨0, 0⟩).what)).2) else
        if (mLoad E s (cVersion E (x.reads.getD k ⟨0, 0⟩).what)).1 ≠ (x.reads.getD k ⟨0, 0⟩).val then (5, (mLoad E s (cVersion E (x.reads.getD k ⟨0, 0⟩).what)).2) else
          mStill E x skip (x.reads.drop (k + 1)) (mLoad E s (cVersion E (x.reads.getD k ⟨0, 0⟩).what)).2) := by
  have e : x.reads.drop k = x.reads.getD k ⟨0, 0⟩ :: x.reads.drop (k + 1) := by
    rw [List.drop_eq_getElem_cons hk]
    simp [List.getD, List.getElem?_eq_getElem hk]
  rw [e]
  rfl

set_option maxRecDepth 100000 in
set_option maxHeartbeats 2000000 in
theorem still_any (E : Env) (hE : EnvOk E) (H : Hd) (B p eb xb : Nat) (s : LS) (x : TS) (skip : Bool) (w : World) (hL : LifeR E H B p eb w s) (hT : TryR B p eb xb w x) (hpos : s.pos ≤ E.seen.length)
    (hm : x.reads.length ≤ 2 ^ 45) (hm2 : x.held.length ≤ 2 ^ 45) (hst : ∀ e ∈ x.reads, -8 ≤ e.what ∧ e.what ≤ 8) :
    Calls Try.prog 79 #[.pointer (some ⟨p, 0, none⟩), .pointer (some ⟨xb, 0, none⟩), .bool skip] w fun e w' =>
      e = .returned (.int .i64 (mStill E x skip x.reads s).1) ∧ LifeR E H B p eb w' (mStill E x skip x.reads s).2 ∧ TryR B p eb xb w' x ∧ Kp [78] B p eb w w' := by
  have HL : Hid (LifeR E H B p eb w s) := hL
  have HT : Hid (TryR B p eb xb w x) := hT
  have HE : Hid (EnvOk E) := hE
  clear hL hT hE
  go_enter Try.func79, Try.ntmps79
  go_wp2
  go_loopw [7] (fun i wr => ∃ k : Nat, ∃ sk : LS, k ≤ x.reads.length ∧ i = .int .i64 k ∧ Hid (mStill E x skip x.reads s = mStill E x skip (x.reads.drop k) sk) ∧ LifeR E H B p eb wr sk ∧ TryR B p eb xb wr x ∧ Kp [78] B p eb w wr ∧ sk.pos ≤ E.seen.length)
    (fun i wr => x.reads.length - (intOf i).toNat)
  case atStart => exact ⟨0, s, Nat.zero_le _, rfl, rfl, HL.out, HT.out, Kp.refl _ _ _ _ _, hpos⟩
  case round =>
    obtain ⟨k, sk, hk, rfl, HM, hL1, hT1, hK1, hpk⟩ := hrel
    have HL1 : Hid (LifeR E H B p eb wr sk) := hL1
    have HT1 : Hid (TryR B p eb xb wr x) := hT1
    have HK1 : Hid (Kp [78] B p eb w wr) := hK1
    obtain ⟨ra, rc, hr1, hn1⟩ := hT1.reads
    clear hL1 hT1 hK1
    by_cases hlt : k < x.reads.length
    · obtain ⟨b, rfl, hc0, hc1, _⟩ := hn1 k hlt
      have HC := mStill_cons E x skip k sk hlt
      obtain ⟨z, hz⟩ : ∃ z, z = x.reads.getD k ⟨0, 0⟩ := ⟨_, rfl⟩
      have hzm : z ∈ x.reads := by rw [hz]; simp [List.getD, List.getElem?_eq_getElem hlt]
      obtain ⟨hz1, hz2⟩ := hst z hzm
      rw [← hz] at hc0 hc1 HC
      have HCH : Hid (mStill E x skip (x.reads.drop k) sk = _) := HC
      clear HC hz hzm hn1 hst
      have HS0 : Hid (HeadAt E H p wr.drew ∧ wr.drew.cell? ⟨xb, 8, none⟩ = some (.slice (some ⟨b, 0, none⟩) x.reads.length rc) ∧ wr.drew.cell? ⟨b, k * 2, none⟩ = some (.int .i64 z.what)) := ⟨(HL1.out).drew.head, hr1, hc0⟩
      cases hsk : (skip && heldB x z.what) with
      | true =>
        have hs1 : skip = true := by cases skip <;> simp_all
        subst hs1
        have hh : heldB x z.what = true := by simpa using hsk
        have HN : Hid (mStill E x true (x.reads.drop k) sk = mStill E x true (x.reads.drop (k + 1)) sk) := by
          show _ = _
          rw [HCH.out, if_pos hsk]
        clear hsk HCH
        go_wp2_with (go_at_call 90; refine (holds_any B p eb xb x _ _ HT1.out hm2).mono ?_; rintro e w' ⟨rfl, hw'⟩; have hw2 := hw'.symm; subst hw2)
        go_roundw
        case rel => exact ⟨k + 1, sk, by omega, by go_num, by show _ = _; rw [HM.out, HN.out], HL1.out, HT1.out, HK1.out, hpk⟩
        case measure => simp [intOf]; omega
      | false =>
        rw [hsk] at HCH
        have HCG : Hid (mStill E x skip (x.reads.drop k) sk = (if (mLoad E sk (cVersion E z.what)).2.over then (-1, (mLoad E sk (cVersion E z.what)).2) else
          if (mLoad E sk (cVersion E z.what)).1 ≠ z.val then (5, (mLoad E sk (cVersion E z.what)).2) else mStill E x skip (x.reads.drop (k + 1)) (mLoad E sk (cVersion E z.what)).2)) := by
          show _ = _
          rw [HCH.out]; simp
        clear HCH
        obtain ⟨hb2, hhb⟩ : ∃ hb2, heldB x z.what = hb2 := ⟨_, rfl⟩
        have hcase : skip = false ∨ (skip = true ∧ hb2 = false) := by cases skip <;> simp_all
        rcases hcase with rfl | ⟨rfl, rfl⟩
        all_goals
          clear hsk
          go_wp2_with (go_at_call 90; refine (holds_any B p eb xb x _ _ HT1.out hm2).mono ?_; rintro e w' ⟨rfl, hw'⟩; have hw2 := hw'.symm; subst hw2)
          go_region_held3 (fun w' => HeadAt E H p w' ∧ w'.cell? ⟨xb, 8, none⟩ = some (.slice (some ⟨b, 0, none⟩) x.reads.length rc) ∧ w'.cell? ⟨b, k * 2, none⟩ = some (.int .i64 z.what))
            (first | exact HS2.out | exact HS1.out | exact HS0.out)
            (first
              | (go_at_call 80; refine (version_at E HE.out H B p eb xb _ _ _ _ (HL1.out).drew (HT1.out).drew (by omega) (by omega)).mono ?_; rintro e w1 ⟨rfl, hL2, hT2, hK2⟩; have HL2 : Hid (LifeR E H B p eb w1 sk) := hL2; have HT2 : Hid (TryR B p eb xb w1 x) := hT2; have HK2 : Hid (Kp [] B p eb wr.drew w1) := hK2; clear hL2 hT2 hK2;
                 have HS1 : Hid (HeadAt E H p w1 ∧ w1.cell? ⟨xb, 8, none⟩ = some (.slice (some ⟨b, 0, none⟩) x.reads.length rc) ∧ w1.cell? ⟨b, k * 2, none⟩ = some (.int .i64 z.what)) := ⟨(HL2.out).head, (((HT1.out).drew.readsKeep HK2.out (by simp) (by simp) hr1 (by omega)).1), (((HT1.out).drew.readsKeep HK2.out (by simp) (by simp) hr1 (by omega)).2 _).trans hc0⟩)
              | (go_at_call 65; refine (load_at E HE.out H B p eb xb _ _ _ _ HL2.out HT2.out hpk).mono ?_; rintro e w2 ⟨rfl, hL3, hT3, hK3⟩; have HL3 : Hid (LifeR E H B p eb w2 (mLoad E sk (cVersion E z.what)).2) := hL3; have HT3 : Hid (TryR B p eb xb w2 x) := hT3; have HK3 : Hid (Kp [78] B p eb wr w2) := ((Kp.below (Below.refl _ _).drew (HL1.out).stat.size).trans (HK2.out).up).trans hK3; clear hL3 hT3 hK3;
                 have HS2 : Hid (HeadAt E H p w2 ∧ w2.cell? ⟨xb, 8, none⟩ = some (.slice (some ⟨b, 0, none⟩) x.reads.length rc) ∧ w2.cell? ⟨b, k * 2, none⟩ = some (.int .i64 z.what)) := ⟨(HL3.out).head, (((HT1.out).readsKeep HK3.out (by simp) (by simp) hr1 (by omega)).1), (((HT1.out).readsKeep HK3.out (by simp) (by simp) hr1 (by omega)).2 _).trans hc0⟩))
          have hov := (HL3.out).over
          have hr2 := ((HT1.out).readsKeep HK3.out (by simp) (by simp) hr1 (by omega)).1
          have hc2 : w2.cell? ⟨b, k * 2 + 1, none⟩ = some (.int .i64 z.val) := (((HT1.out).readsKeep HK3.out (by simp) (by simp) hr1 (by omega)).2 _).trans hc1
          have hpk2 : (mLoad E sk (cVersion E z.what)).2.pos ≤ E.seen.length := (mAsk_pos E sk _ hpk).2
          clear hc0 hc1 hr1 HS0 HS1 HS2
          generalize hql : mLoad E sk (cVersion E z.what) = ql at *
          obtain ⟨qv, qs⟩ := ql
          clear hql
          cases hqo : qs.over with
          | true =>
            go_wp2
            go_ret
            exact ⟨by rw [HM.out, HCG.out, if_pos hqo]; rfl, by rw [HM.out, HCG.out, if_pos hqo]; exact HL3.out, HT3.out, (HK1.out).trans HK3.out⟩
          | false =>
            by_cases hne : qv = z.val
            · have hbe : (qv != z.val) = false := by simp [hne]
              go_wp2
              go_roundw
              case rel => exact ⟨k + 1, qs, by omega, by go_num, by show _ = _; rw [HM.out, HCG.out, if_neg (by simp [hqo]), if_neg (by simp [hne])], HL3.out, HT3.out, (HK1.out).trans HK3.out, hpk2⟩
              case measure => simp [intOf]; omega
            · have hbe : (qv != z.val) = true := by simp [hne]
              have HNE : Hid (¬ qv = z.val) := hne
              clear hne
              go_wp2
              go_ret
              exact ⟨by rw [HM.out, HCG.out, if_neg (by simp [hqo]), if_pos HNE.out]; rfl, by rw [HM.out, HCG.out, if_neg (by simp [hqo]), if_pos HNE.out]; exact HL3.out, HT3.out, (HK1.out).trans HK3.out⟩
    · have HF : Hid (mStill E x skip (x.reads.drop k) sk = (0, sk)) := by
        show _ = _
        rw [List.drop_eq_nil_of_le (by omega)]
        rfl
      go_wp2
      go_ret
      exact ⟨by rw [HM.out, HF.out]; rfl, by rw [HM.out, HF.out]; exact HL1.out, HT1.out, HK1.out⟩

end Go.Proofs.Ytejadojilncbjaa
