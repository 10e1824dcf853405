import Derived.Test.YtejadojilncbjaaGreatG06
namespace Go.Proofs.YtejadojilncbjaaGreat
open Go.RowKit
set_option linter.unusedVariables false
attribute [local go_sem ↓] Go.wp_at_zero Go.wp_at_succ
theorem LifeR.last {E : Env} {H : Hd} {B p eb : Nat} {w : World} {s : LS} (hL : LifeR E H B p eb w s) (hne : s.list ≠ []) :
  ∃ g lc n cur, s.list.length = n + 1 ∧ Blk w p 88 (lifeArr E H (some ⟨g, 0, none⟩) lc s) ∧ ListRep w B (some ⟨g, 0, none⟩) lc s.list ∧ Blk w g 63 cur ∧ B ≤ g ∧ n * 8 + 7 < cur.size := by
 obtain ⟨la, lc, hb, hl⟩ := hL.life
 have hl' := hl
 obtain ⟨nvs, hnl, ho, hno, hd⟩ := hl'
 obtain ⟨n, hn⟩ : ∃ n, s.list.length = n + 1 := ⟨s.list.length - 1, by have := List.length_pos_iff.2 hne; omega⟩
 obtain ⟨g, cap, cur, hgv, hgB, hgb, r1, r2, r3, r4⟩ := own_block ho (by omega)
 simp at hgv
 obtain ⟨rfl, rfl⟩ := hgv
 exact ⟨g, lc, n, cur, hn, hb, hl, hgb, hgB, by omega⟩
theorem LifeR.num {E : Env} {H : Hd} {B p eb g lc n j : Nat} {w : World} {s : LS} {v : Int} {f : AttD → AttD} {cur : Array Value} (hL : LifeR E H B p eb w s) (hn : s.list.length = n + 1) (hb : Blk w p 88 (lifeArr E H (some ⟨g, 0, none⟩) lc s))
  (hl : ListRep w B (some ⟨g, 0, none⟩) lc s.list) (hg : Blk w g 63 cur) (hgB : B ≤ g) (hj : j < 7) (hf : ∀ a nv, attCells (f a) nv = (attCells a nv).set j (.int .i64 v)) (hfn : ∀ a, (f a).notes = a.notes) :
  LifeR E H B p eb (w.setCell ⟨g, n * 8 + j, none⟩ (.int .i64 v)) { s with list := modLast s.list f } ∧ Kp [63] B p eb w (w.setCell ⟨g, n * 8 + j, none⟩ (.int .i64 v)) := by
 have hk : Kp [63] B p eb w (w.setCell ⟨g, n * 8 + j, none⟩ (.int .i64 v)) := Kp.only (Only.refl _ _).set hL.stat.size hg (by simp) (Or.inr (Or.inr hgB))
 refine ⟨⟨hL.stat.keep hk, ⟨some ⟨g, 0, none⟩, lc, ?_, hl.num hn hj hf hfn⟩, hL.ends.imp id (fun ⟨x, y⟩ => ⟨x, y.keep hk (by simp)⟩), hL.pB, hL.eB, hL.pe⟩, hk⟩
 refine (hb.keep hk (by simp)).congr ?_
 simp [lifeArr, modLast]
theorem modLast_modLast (L : List AttD) (f g : AttD → AttD) : modLast (modLast L f) g = modLast L (fun a => g (f a)) := by
 unfold modLast
 rw [List.length_modify, List.modify_modify_eq]
 rfl
theorem Blk.keepLen {w : World} {g i : Nat} {t : TypeId} {cs : Array Value} {v : Value} (h : Blk w g t cs) : ∃ ds : Array Value, Blk (w.setCell ⟨g, i, none⟩ v) g t ds ∧ ds.size = cs.size := ⟨_, h.set, by simp⟩
theorem LifeR.blk_of {E : Env} {H : Hd} {p g lc i : Nat} {w : World} {s : LS} {v : Value} (hb : Blk w p 88 (lifeArr E H (some ⟨g, 0, none⟩) lc s)) (hpg : p ≠ g) (f : AttD → AttD) :
  Blk (w.setCell ⟨g, i, none⟩ v) p 88 (lifeArr E H (some ⟨g, 0, none⟩) lc { s with list := modLast s.list f }) := by
 refine (hb.only (Only.refl g w).set hpg).congr ?_
 simp [lifeArr, modLast]
set_option maxRecDepth 100000 in
set_option maxHeartbeats 3200000 in
theorem ended_any (E : Env) (hE : EnvOk E) (H : Hd) (B p eb : Nat) (s : LS) (fate : Int) (w : World) (hL : LifeR E H B p eb w s) (hne : s.list ≠ []) (hlen : s.list.length ≤ 2 ^ 42) (hp0 : 0 < s.pos) (hp1 : s.pos ≤ E.seen.length) :
  Calls Tryz.prog 89 #[.pointer (some ⟨p, 0, none⟩), .int .i64 fate] w fun e w' =>
   e = .returned (.tuple #[]) ∧ LifeR E H B p eb w' (mEnded E s fate) ∧ Kp [63] B p eb w w' := by
 obtain ⟨g, lc, n, cur, hn, hb, hl, hgb, hgB, hsz⟩ := hL.last hne
 obtain ⟨m, hm⟩ : ∃ m, s.pos = m + 1 := ⟨s.pos - 1, by omega⟩
 have hwl := hE.wlen
 have hel := hE.len
 obtain ⟨b, off, hwa, hwb, hwc⟩ := hL.stat.whens m (by omega)
 obtain ⟨z, hz⟩ : ∃ z, z = E.whens.getD m 0 := ⟨_, rfl⟩
 rw [← hz] at hwc
 have hc21 : w.cell? ⟨p, 21, none⟩ = some (.slice (some ⟨g, 0, none⟩) (n + 1) lc) := by rw [hb.cell]; simp [lifeArr, hn]
 have hc12 : w.cell? ⟨p, 12, none⟩ = some (.slice (some ⟨b, off, none⟩) E.whens.length H.wc) := by rw [hb.cell]; simp [lifeArr, hwa]
 have hc13 : w.cell? ⟨p, 13, none⟩ = some (.int .i64 ((m : Int) + 1)) := by rw [hb.cell]; simp [lifeArr, hm]
 obtain ⟨u3, hg3⟩ : ∃ u, w.cell? ⟨g, n * 8 + 3, none⟩ = some u := ⟨cur[n * 8 + 3]'(by omega), by rw [hgb.cell]; exact Array.getElem?_eq_getElem _⟩
 obtain ⟨u6, hg6⟩ : ∃ u, w.cell? ⟨g, n * 8 + 6, none⟩ = some u := ⟨cur[n * 8 + 6]'(by omega), by rw [hgb.cell]; exact Array.getElem?_eq_getElem _⟩
 have hf := hgb.frozen
 have hpg : p ≠ g := Blk.ne hb hgb (by decide)
 have hgp : g ≠ p := fun e => hpg e.symm
 have hbg : b ≠ g := by have := (hL.stat.whensF b off hwa).1; omega
 have hgb' : g ≠ b := fun e => hbg e.symm
 have hI0 : (0 : Int) ≤ (n : Int) := Int.natCast_nonneg _
 have hI2 : (n : Int) < (n : Int) + 1 := by omega
 have hn42 : (n : Int) ≤ 4398046511104 := by omega
 have hm0 : (0 : Int) ≤ (m : Int) := Int.natCast_nonneg _
 have hm1 : (m : Int) < (E.whens.length : Int) := by omega
 have hm2 : (m : Int) ≤ 35184372088832 := by omega
 have HL : Hid (LifeR E H B p eb w s) := hL
 have HN : Hid (s.list.length = n + 1) := hn
 have HM : Hid (s.pos = m + 1) := hm
 have HZ : Hid (z = E.whens.getD m 0) := hz
 have HBk : Hid (Blk w p 88 (lifeArr E H (some ⟨g, 0, none⟩) lc s)) := hb
 have HR : Hid (ListRep w B (some ⟨g, 0, none⟩) lc s.list) := hl
 have HG : Hid (Blk w g 63 cur) := hgb
 clear hL hn hm hz hb hl hgb hE hne hlen hp0 hp1 hwl hel hwa
 go_enter Tryz.func89, Tryz.ntmps89
 go_wp2_with fail
 go_region
 all_goals
  go_wp2
  go_end0
  obtain ⟨hL1, hK1⟩ := (HL.out).num (j := 3) (v := z) (f := fun a => { a with fin := z }) HN.out HBk.out HR.out HG.out hgB (by omega) (fun _ _ => rfl) (fun _ => rfl)
  obtain ⟨ds, hd1, hd2⟩ := (HG.out).keepLen (i := n * 8 + 3) (v := .int .i64 z)
  obtain ⟨hL2, hK2⟩ := hL1.num (j := 6) (v := fate) (f := fun a => { a with fate := fate }) (by simp [modLast]; exact HN.out) (LifeR.blk_of HBk.out hpg _)
   ((HR.out).num HN.out (by omega) (fun _ _ => rfl) (fun _ => rfl)) hd1 hgB (by omega) (fun _ _ => rfl) (fun _ => rfl)
  refine ⟨rfl, ?_, (hK1.trans hK2).drew⟩
  have e : mEnded E s fate = { s with list := modLast (modLast s.list fun a => { a with fin := z }) fun a => { a with fate := fate } } := by
   rw [modLast_modLast]
   simp [mEnded, HM.out, HZ.out]
  rw [e]
  exact hL2.drew
theorem TryR.reads {B p eb xb : Nat} {w : World} {x : TS} (h : TryR B p eb xb w x) : ∃ ra rc, w.cell? ⟨xb, 8, none⟩ = some (.slice ra x.reads.length rc) ∧ EntsIn w ra x.reads := by
 obtain ⟨ca, cc, ra, rc, wa, wc, ha, hc, hb, hcd, hcf, h3, h4, h5, h6⟩ := h.blk
 exact ⟨ra, rc, by rw [hb.cell]; rfl, ents_of h3⟩
theorem TryR.readsKeep {chg : List TypeId} {B p eb xb b rc : Nat} {w w' : World} {x : TS} (h : TryR B p eb xb w x) (hk : Kp chg B p eb w w') (h0 : 145 ∉ chg) (h2 : 160 ∉ chg)
  (hh : w.cell? ⟨xb, 8, none⟩ = some (.slice (some ⟨b, 0, none⟩) x.reads.length rc)) (hn : 0 < x.reads.length) :
  w'.cell? ⟨xb, 8, none⟩ = some (.slice (some ⟨b, 0, none⟩) x.reads.length rc) ∧ ∀ i, w'.cell? ⟨b, i, none⟩ = w.cell? ⟨b, i, none⟩ := by
 obtain ⟨ca, cc, ra, rc', wa, wc, ha, hc', hb, hcd, hcf, h3, h4, h5, h6⟩ := h.blk
 refine ⟨by rw [cell_tag hb hk h0]; exact hh, fun i => ?_⟩
 rw [hb.cell] at hh
 obtain ⟨g, cap, cur, hv, _, hg, _⟩ := own_block h3 hn
 simp [tryArr] at hh
 simp at hv
 obtain ⟨rfl, _⟩ := hv
 simp at hh
 obtain ⟨rfl, _⟩ := hh
 exact cell_tag hg hk h2
theorem LifeR.over {E : Env} {H : Hd} {B p eb : Nat} {w : World} {s : LS} (h : LifeR E H B p eb w s) : w.cell? ⟨p, 14, none⟩ = some (.bool s.over) := by
 obtain ⟨la, lc, hb, _⟩ := h.life
 rw [hb.cell]; rfl
theorem version_at (E : Env) (hE : EnvOk E) (H : Hd) (B p eb xb : Nat) (s : LS) (x : TS) (n : Int) (w : World) (hL : LifeR E H B p eb w s) (hT : TryR B p eb xb w x) (h3 : -10 ≤ n) (h4 : n ≤ 1125899906842634) :
  Calls Tryz.prog 99 #[.agg #[.int .i64 E.c.t, .int .i64 E.c.wd, .int .i64 E.c.s, .int .i64 E.c.g, .int .i64 E.c.r, .int .i64 E.c.cp, .int .i64 E.c.f, .slice H.ma H.ml H.mc, .slice H.ja E.jobs.length H.jc], .int .i64 n] w fun e w' =>
   e = .returned (.int .i64 (cVersion E n)) ∧ LifeR E H B p eb w' s ∧ TryR B p eb xb w' x ∧ Kp [] B p eb w w' := by
 refine (versionV _ _ _ _ _ _ _ n _ _ _ _ _ _ w h3 h4).mono ?_
 rintro e w' ⟨rfl, hb⟩
 exact ⟨rfl, hL.below hb, hT.below hb hL.stat.size, Kp.below hb hL.stat.size⟩
theorem owner_at (E : Env) (hE : EnvOk E) (H : Hd) (B p eb xb : Nat) (s : LS) (x : TS) (n : Int) (w : World) (hL : LifeR E H B p eb w s) (hT : TryR B p eb xb w x) (h3 : -10 ≤ n) (h4 : n ≤ 1125899906842634) :
  Calls Tryz.prog 100 #[.agg #[.int .i64 E.c.t, .int .i64 E.c.wd, .int .i64 E.c.s, .int .i64 E.c.g, .int .i64 E.c.r, .int .i64 E.c.cp, .int .i64 E.c.f, .slice H.ma H.ml H.mc, .slice H.ja E.jobs.length H.jc], .int .i64 n] w fun e w' =>
   e = .returned (.int .i64 (cOwner E n)) ∧ LifeR E H B p eb w' s ∧ TryR B p eb xb w' x ∧ Kp [] B p eb w w' := by
 obtain ⟨_, _, ⟨hs1, hs2⟩, _⟩ := cfgB_true hE.cfg
 refine (ownerV _ _ _ _ _ _ _ n _ _ _ _ _ _ w hs1 hs2 h3 h4).mono ?_
 rintro e w' ⟨rfl, hb⟩
 exact ⟨rfl, hL.below hb, hT.below hb hL.stat.size, Kp.below hb hL.stat.size⟩
theorem status_at (E : Env) (hE : EnvOk E) (H : Hd) (B p eb xb : Nat) (s : LS) (x : TS) (n : Int) (w : World) (hL : LifeR E H B p eb w s) (hT : TryR B p eb xb w x) (h3 : -10 ≤ n) (h4 : n ≤ 1125899906842634) :
  Calls Tryz.prog 88 #[.agg #[.int .i64 E.c.t, .int .i64 E.c.wd, .int .i64 E.c.s, .int .i64 E.c.g, .int .i64 E.c.r, .int .i64 E.c.cp, .int .i64 E.c.f, .slice H.ma H.ml H.mc, .slice H.ja E.jobs.length H.jc], .int .i64 n] w fun e w' =>
   e = .returned (.int .i64 (cStatus E n)) ∧ LifeR E H B p eb w' s ∧ TryR B p eb xb w' x ∧ Kp [] B p eb w w' := by
 obtain ⟨_, _, ⟨hs1, hs2⟩, _⟩ := cfgB_true hE.cfg
 refine (statusV _ _ _ _ _ _ _ n _ _ _ _ _ _ w hs1 hs2 h3 h4).mono ?_
 rintro e w' ⟨rfl, hb⟩
 exact ⟨rfl, hL.below hb, hT.below hb hL.stat.size, Kp.below hb hL.stat.size⟩
theorem word_at (E : Env) (hE : EnvOk E) (H : Hd) (B p eb xb : Nat) (s : LS) (x : TS) (n : Int) (w : World) (hL : LifeR E H B p eb w s) (hT : TryR B p eb xb w x) (h3 : -70000 ≤ n) (h4 : n ≤ 1125899906842634) :
  Calls Tryz.prog 72 #[.agg #[.int .i64 E.c.t, .int .i64 E.c.wd, .int .i64 E.c.s, .int .i64 E.c.g, .int .i64 E.c.r, .int .i64 E.c.cp, .int .i64 E.c.f, .slice H.ma H.ml H.mc, .slice H.ja E.jobs.length H.jc], .int .i64 n] w fun e w' =>
   e = .returned (.int .i64 (cWord E n)) ∧ LifeR E H B p eb w' s ∧ TryR B p eb xb w' x ∧ Kp [] B p eb w w' := by
 obtain ⟨⟨ht1, ht2⟩, _, ⟨hs1, hs2⟩, _⟩ := cfgB_true hE.cfg
 refine (wordV _ _ _ _ _ _ _ n _ _ _ _ _ _ w hs1 hs2 ht1 ht2 h3 h4).mono ?_
 rintro e w' ⟨rfl, hb⟩
 exact ⟨rfl, hL.below hb, hT.below hb hL.stat.size, Kp.below hb hL.stat.size⟩
theorem load_at (E : Env) (hE : EnvOk E) (H : Hd) (B p eb xb : Nat) (s : LS) (x : TS) (c : Int) (w : World) (hL : LifeR E H B p eb w s) (hT : TryR B p eb xb w x) (hpos : s.pos ≤ E.seen.length) :
  Calls Tryz.prog 82 #[.pointer (some ⟨p, 0, none⟩), .int .i64 c] w fun e w' =>
   e = .returned (.int .i64 (mLoad E s c).1) ∧ LifeR E H B p eb w' (mLoad E s c).2 ∧ TryR B p eb xb w' x ∧ Kp [88] B p eb w w' := by
 refine (loadL E hE H B p eb s c w hL hpos).mono ?_
 rintro e w' ⟨he, h1, h2⟩
 exact ⟨he, h1, hT.keep h2 (by simp) (by simp) (by simp), h2⟩
theorem store_at (E : Env) (hE : EnvOk E) (H : Hd) (B p eb xb : Nat) (s : LS) (x : TS) (c t : Int) (w : World) (hL : LifeR E H B p eb w s) (hT : TryR B p eb xb w x) (hpos : s.pos ≤ E.seen.length) :
  Calls Tryz.prog 87 #[.pointer (some ⟨p, 0, none⟩), .int .i64 c, .int .i64 t] w fun e w' =>
   e = .returned (.int .i64 (mStore E s c t).1) ∧ LifeR E H B p eb w' (mStore E s c t).2 ∧ TryR B p eb xb w' x ∧ Kp [88] B p eb w w' := by
 refine (storeL E hE H B p eb s c t w hL hpos).mono ?_
 rintro e w' ⟨he, h1, h2⟩
 exact ⟨he, h1, hT.keep h2 (by simp) (by simp) (by simp), h2⟩
theorem ask_at (E : Env) (hE : EnvOk E) (H : Hd) (B p eb xb : Nat) (s : LS) (x : TS) (k c f t : Int) (w : World) (hL : LifeR E H B p eb w s) (hT : TryR B p eb xb w x) (hpos : s.pos ≤ E.seen.length) :
  Calls Tryz.prog 78 #[.pointer (some ⟨p, 0, none⟩), .int .i64 k, .int .i64 c, .int .i64 f, .int .i64 t] w fun e w' =>
   e = .returned (.int .i64 (mAsk E s ⟨k, c, f, t⟩).1) ∧ LifeR E H B p eb w' (mAsk E s ⟨k, c, f, t⟩).2 ∧ TryR B p eb xb w' x ∧ Kp [88] B p eb w w' := by
 refine (askL E hE H B p eb s k c f t w hL hpos).mono ?_
 rintro e w' ⟨he, h1, h2⟩
 exact ⟨he, h1, hT.keep h2 (by simp) (by simp) (by simp), h2⟩
theorem Kp.up {chg : List TypeId} {B p eb : Nat} {w w' : World} (h : Kp [] B p eb w w') : Kp chg B p eb w w' := h.wide (by simp)
theorem mStill_cons (E : Env) (x : TS) (skip : Bool) (k : Nat) (s : LS) (hk : k < x.reads.length) : mStill E x skip (x.reads.drop k) s =
  (if skip && heldB x (x.reads.getD k ⟨0, 0⟩).what then mStill E x skip (x.reads.drop (k + 1)) s else
      if (mLoad E s (cVersion E (x.reads.getD k ⟨0, 0⟩).what)).2.over then (-1, (mLoad E s (cVersion E (x.reads.getD k ⟨0, 0⟩).what)).2) else
       if (mLoad E s (cVersion E (x.reads.getD k ⟨0, 0⟩).what)).1 ≠ (x.reads.getD k ⟨0, 0⟩).val then (5, (mLoad E s (cVersion E (x.reads.getD k ⟨0, 0⟩).what)).2) else
        mStill E x skip (x.reads.drop (k + 1)) (mLoad E s (cVersion E (x.reads.getD k ⟨0, 0⟩).what)).2) := by
 have e : x.reads.drop k = x.reads.getD k ⟨0, 0⟩ :: x.reads.drop (k + 1) := by
  rw [List.drop_eq_getElem_cons hk]
  simp [List.getD, List.getElem?_eq_getElem hk]
 rw [e]
 rfl
set_option maxRecDepth 100000 in
set_option maxHeartbeats 2000000 in
theorem still_any (E : Env) (hE : EnvOk E) (H : Hd) (B p eb xb : Nat) (s : LS) (x : TS) (skip : Bool) (w : World) (hL : LifeR E H B p eb w s) (hT : TryR B p eb xb w x) (hpos : s.pos ≤ E.seen.length)
  (hm : x.reads.length ≤ 2 ^ 45) (hm2 : x.held.length ≤ 2 ^ 45) (hst : ∀ e ∈ x.reads, -8 ≤ e.what ∧ e.what ≤ 8) :
  Calls Tryz.prog 98 #[.pointer (some ⟨p, 0, none⟩), .pointer (some ⟨xb, 0, none⟩), .bool skip] w fun e w' =>
   e = .returned (.int .i64 (mStill E x skip x.reads s).1) ∧ LifeR E H B p eb w' (mStill E x skip x.reads s).2 ∧ TryR B p eb xb w' x ∧ Kp [88] B p eb w w' := by
 have HL : Hid (LifeR E H B p eb w s) := hL
 have HT : Hid (TryR B p eb xb w x) := hT
 have HE : Hid (EnvOk E) := hE
 clear hL hT hE
 go_enter Tryz.func98, Tryz.ntmps98
 go_wp2
 go_loopw [7] (fun i wr => ∃ k : Nat, ∃ sk : LS, k ≤ x.reads.length ∧ i = .int .i64 k ∧ Hid (mStill E x skip x.reads s = mStill E x skip (x.reads.drop k) sk) ∧ LifeR E H B p eb wr sk ∧ TryR B p eb xb wr x ∧ Kp [88] B p eb w wr ∧ sk.pos ≤ E.seen.length)
  (fun i wr => x.reads.length - (intOf i).toNat)
 case atStart => exact ⟨0, s, Nat.zero_le _, rfl, rfl, HL.out, HT.out, Kp.refl _ _ _ _ _, hpos⟩
 case round =>
  obtain ⟨k, sk, hk, rfl, HM, hL1, hT1, hK1, hpk⟩ := hrel
  have HL1 : Hid (LifeR E H B p eb wr sk) := hL1
  have HT1 : Hid (TryR B p eb xb wr x) := hT1
  have HK1 : Hid (Kp [88] B p eb w wr) := hK1
  obtain ⟨ra, rc, hr1, hn1⟩ := hT1.reads
  clear hL1 hT1 hK1
  by_cases hlt : k < x.reads.length
  ·obtain ⟨b, rfl, hc0, hc1, _⟩ := hn1 k hlt
   have HC := mStill_cons E x skip k sk hlt
   obtain ⟨z, hz⟩ : ∃ z, z = x.reads.getD k ⟨0, 0⟩ := ⟨_, rfl⟩
   have hzm : z ∈ x.reads := by rw [hz]; simp [List.getD, List.getElem?_eq_getElem hlt]
   obtain ⟨hz1, hz2⟩ := hst z hzm
   rw [← hz] at hc0 hc1 HC
   have HCH : Hid (mStill E x skip (x.reads.drop k) sk = _) := HC
   clear HC hz hzm hn1 hst
   have HS0 : Hid (HeadAt E H p wr.drew ∧ wr.drew.cell? ⟨xb, 8, none⟩ = some (.slice (some ⟨b, 0, none⟩) x.reads.length rc) ∧ wr.drew.cell? ⟨b, k * 2, none⟩ = some (.int .i64 z.what)) := ⟨(HL1.out).drew.head, hr1, hc0⟩
   cases hsk : (skip && heldB x z.what) with
   | true =>
    have hs1 : skip = true := by cases skip <;> simp_all
    subst hs1
    have hh : heldB x z.what = true := by simpa using hsk
    have HN : Hid (mStill E x true (x.reads.drop k) sk = mStill E x true (x.reads.drop (k + 1)) sk) := by
     show _ = _
     rw [HCH.out, if_pos hsk]
    clear hsk HCH
    go_wp2_with (go_at_call 121; refine (holds_any B p eb xb x _ _ HT1.out hm2).mono ?_; rintro e w' ⟨rfl, hw'⟩; have hw2 := hw'.symm; subst hw2)
    go_roundw
    case rel => exact ⟨k + 1, sk, by omega, by go_num, by show _ = _; rw [HM.out, HN.out], HL1.out, HT1.out, HK1.out, hpk⟩
    case measure => simp [intOf]; omega
   | false =>
    rw [hsk] at HCH
    have HCG : Hid (mStill E x skip (x.reads.drop k) sk = (if (mLoad E sk (cVersion E z.what)).2.over then (-1, (mLoad E sk (cVersion E z.what)).2) else
           if (mLoad E sk (cVersion E z.what)).1 ≠ z.val then (5, (mLoad E sk (cVersion E z.what)).2) else mStill E x skip (x.reads.drop (k + 1)) (mLoad E sk (cVersion E z.what)).2)) := by
     show _ = _
     rw [HCH.out]; simp
    clear HCH
    obtain ⟨hb2, hhb⟩ : ∃ hb2, heldB x z.what = hb2 := ⟨_, rfl⟩
    have hcase : skip = false ∨ (skip = true ∧ hb2 = false) := by cases skip <;> simp_all
    rcases hcase with rfl | ⟨rfl, rfl⟩
    all_goals
     clear hsk
     go_wp2_with (go_at_call 121; refine (holds_any B p eb xb x _ _ HT1.out hm2).mono ?_; rintro e w' ⟨rfl, hw'⟩; have hw2 := hw'.symm; subst hw2)
     go_region_held3 (fun w' => HeadAt E H p w' ∧ w'.cell? ⟨xb, 8, none⟩ = some (.slice (some ⟨b, 0, none⟩) x.reads.length rc) ∧ w'.cell? ⟨b, k * 2, none⟩ = some (.int .i64 z.what))
      (first | exact HS2.out | exact HS1.out | exact HS0.out)
      (first
          | (go_at_call 99; refine (version_at E HE.out H B p eb xb _ _ _ _ (HL1.out).drew (HT1.out).drew (by omega) (by omega)).mono ?_; rintro e w1 ⟨rfl, hL2, hT2, hK2⟩; have HL2 : Hid (LifeR E H B p eb w1 sk) := hL2; have HT2 : Hid (TryR B p eb xb w1 x) := hT2; have HK2 : Hid (Kp [] B p eb wr.drew w1) := hK2; clear hL2 hT2 hK2;
             have HS1 : Hid (HeadAt E H p w1 ∧ w1.cell? ⟨xb, 8, none⟩ = some (.slice (some ⟨b, 0, none⟩) x.reads.length rc) ∧ w1.cell? ⟨b, k * 2, none⟩ = some (.int .i64 z.what)) := ⟨(HL2.out).head, (((HT1.out).drew.readsKeep HK2.out (by simp) (by simp) hr1 (by omega)).1), (((HT1.out).drew.readsKeep HK2.out (by simp) (by simp) hr1 (by omega)).2 _).trans hc0⟩)
          | (go_at_call 82; refine (load_at E HE.out H B p eb xb _ _ _ _ HL2.out HT2.out hpk).mono ?_; rintro e w2 ⟨rfl, hL3, hT3, hK3⟩; have HL3 : Hid (LifeR E H B p eb w2 (mLoad E sk (cVersion E z.what)).2) := hL3; have HT3 : Hid (TryR B p eb xb w2 x) := hT3; have HK3 : Hid (Kp [88] B p eb wr w2) := ((Kp.below (Below.refl _ _).drew (HL1.out).stat.size).trans (HK2.out).up).trans hK3; clear hL3 hT3 hK3;
             have HS2 : Hid (HeadAt E H p w2 ∧ w2.cell? ⟨xb, 8, none⟩ = some (.slice (some ⟨b, 0, none⟩) x.reads.length rc) ∧ w2.cell? ⟨b, k * 2, none⟩ = some (.int .i64 z.what)) := ⟨(HL3.out).head, (((HT1.out).readsKeep HK3.out (by simp) (by simp) hr1 (by omega)).1), (((HT1.out).readsKeep HK3.out (by simp) (by simp) hr1 (by omega)).2 _).trans hc0⟩))
     have hov := (HL3.out).over
     have hr2 := ((HT1.out).readsKeep HK3.out (by simp) (by simp) hr1 (by omega)).1
     have hc2 : w2.cell? ⟨b, k * 2 + 1, none⟩ = some (.int .i64 z.val) := (((HT1.out).readsKeep HK3.out (by simp) (by simp) hr1 (by omega)).2 _).trans hc1
     have hpk2 : (mLoad E sk (cVersion E z.what)).2.pos ≤ E.seen.length := (mAsk_pos E sk _ hpk).2
     clear hc0 hc1 hr1 HS0 HS1 HS2
     generalize hql : mLoad E sk (cVersion E z.what) = ql at *
     obtain ⟨qv, qs⟩ := ql
     clear hql
     cases hqo : qs.over with
     | true =>
      go_wp2
      go_ret
      exact ⟨by rw [HM.out, HCG.out, if_pos hqo]; rfl, by rw [HM.out, HCG.out, if_pos hqo]; exact HL3.out, HT3.out, (HK1.out).trans HK3.out⟩
     | false =>
      by_cases hne : qv = z.val
      ·have hbe : (qv != z.val) = false := by simp [hne]
       go_wp2
       go_roundw
       case rel => exact ⟨k + 1, qs, by omega, by go_num, by show _ = _; rw [HM.out, HCG.out, if_neg (by simp [hqo]), if_neg (by simp [hne])], HL3.out, HT3.out, (HK1.out).trans HK3.out, hpk2⟩
       case measure => simp [intOf]; omega
      ·have hbe : (qv != z.val) = true := by simp [hne]
       have HNE : Hid (¬ qv = z.val) := hne
       clear hne
       go_wp2
       go_ret
       exact ⟨by rw [HM.out, HCG.out, if_neg (by simp [hqo]), if_pos HNE.out]; rfl, by rw [HM.out, HCG.out, if_neg (by simp [hqo]), if_pos HNE.out]; exact HL3.out, HT3.out, (HK1.out).trans HK3.out⟩
  ·have HF : Hid (mStill E x skip (x.reads.drop k) sk = (0, sk)) := by
    show _ = _
    rw [List.drop_eq_nil_of_le (by omega)]
    rfl
   go_wp2
   go_ret
   exact ⟨by rw [HM.out, HF.out]; rfl, by rw [HM.out, HF.out]; exact HL1.out, HT1.out, HK1.out⟩
theorem TryR.set {B p eb xb i : Nat} {w : World} {x x' : TS} {v : Value} (hT : TryR B p eb xb w x) (hB : B ≤ w.heap.size) (h1 : x'.code = x.code) (h2 : x'.reads = x.reads) (h3 : x'.writes = x.writes) (h4 : x'.held = x.held) (h5 : x'.regs.length = 4)
  (ha : ∀ ca cc ra rc wa wc ha hc, (tryArr ca cc ra rc wa wc ha hc x).setIfInBounds i v = tryArr ca cc ra rc wa wc ha hc x') : TryR B p eb xb (w.setCell ⟨xb, i, none⟩ v) x' ∧ Kp [145] B p eb w (w.setCell ⟨xb, i, none⟩ v) := by
 obtain ⟨ca, cc, ra, rc, wa, wc, hha, hc, hb, hcd, hcf, g3, g4, g5, g6⟩ := hT.blk
 have hk : Kp [145] B p eb w (w.setCell ⟨xb, i, none⟩ v) := Kp.only (Only.refl _ _).set hB hb (by simp) (Or.inr (Or.inr hT.xB))
 refine ⟨⟨⟨ca, cc, ra, rc, wa, wc, hha, hc, hb.set.congr (ha ..), by rw [h1]; exact hcd.keep hcf hk, by rw [h1]; exact hcf, by rw [h2]; exact ownsRow_keep g3 hk (by simp), by rw [h3]; exact ownsRow_keep g4 hk (by simp), by rw [h4]; exact ownsRow_keep g5 hk (by simp), by rw [h2, h3]; exact g6⟩, hT.xB, h5⟩, hk⟩
theorem TryR.cells {B p eb xb : Nat} {w : World} {x : TS} (hT : TryR B p eb xb w x) : ∃ ca cc ra rc wa wc ha hc, (∀ i, w.cell? ⟨xb, i, none⟩ = (tryArr ca cc ra rc wa wc ha hc x)[i]?) ∧ (∀ i, w.frozen? ⟨xb, i, none⟩ = false) := by
 obtain ⟨ca, cc, ra, rc, wa, wc, hha, hc, hb, _⟩ := hT.blk
 exact ⟨ca, cc, ra, rc, wa, wc, hha, hc, hb.cell, hb.frozen⟩
theorem mStill_pos (E : Env) (x : TS) (skip : Bool) : ∀ (l : List EntD) (s : LS), s.pos ≤ E.seen.length → s.pos ≤ (mStill E x skip l s).2.pos ∧ (mStill E x skip l s).2.pos ≤ E.seen.length
 | [], s, h => ⟨Nat.le_refl _, h⟩
 | e :: r, s, h => by
  have h1 := mAsk_pos E s ⟨1, cVersion E e.what, 0, 0⟩ h
  unfold mStill
  split
  ·exact mStill_pos E x skip r s h
  ·show _ ≤ (if (mLoad E s (cVersion E e.what)).2.over = true then _ else if (mLoad E s (cVersion E e.what)).1 ≠ e.val then _ else _ : Int × LS).2.pos ∧ (if (mLoad E s (cVersion E e.what)).2.over = true then _ else if (mLoad E s (cVersion E e.what)).1 ≠ e.val then _ else _ : Int × LS).2.pos ≤ _
   split
   ·exact h1
   ·split
    ·exact h1
    ·have h2 := mStill_pos E x skip r (mLoad E s (cVersion E e.what)).2 h1.2
     exact ⟨Nat.le_trans h1.1 h2.1, h2.2⟩
theorem mStill_list (E : Env) (x : TS) (skip : Bool) : ∀ (l : List EntD) (s : LS), (mStill E x skip l s).2.list = s.list
 | [], s => rfl
 | e :: r, s => by
  have h1 : (mLoad E s (cVersion E e.what)).2.list = s.list := mAsk_list E s _
  unfold mStill
  split
  ·exact mStill_list E x skip r s
  ·show (if (mLoad E s (cVersion E e.what)).2.over = true then _ else if (mLoad E s (cVersion E e.what)).1 ≠ e.val then _ else _ : Int × LS).2.list = _
   split
   ·exact h1
   ·split
    ·exact h1
    ·exact (mStill_list E x skip r (mLoad E s (cVersion E e.what)).2).trans h1
set_option maxRecDepth 100000 in
set_option maxHeartbeats 2000000 in
theorem extend_any (E : Env) (hE : EnvOk E) (H : Hd) (B p eb xb : Nat) (s : LS) (x : TS) (w : World) (hL : LifeR E H B p eb w s) (hT : TryR B p eb xb w x) (hpos : s.pos ≤ E.seen.length) (hne : s.list ≠ []) (hlen : s.list.length ≤ 2 ^ 42)
  (hm : x.reads.length ≤ 2 ^ 45) (hm2 : x.held.length ≤ 2 ^ 45) (hst : ∀ e ∈ x.reads, -8 ≤ e.what ∧ e.what ≤ 8) :
  Calls Tryz.prog 161 #[.pointer (some ⟨p, 0, none⟩), .pointer (some ⟨xb, 0, none⟩)] w fun e w' =>
   e = .returned (.int .i64 (mExtend E s x).1) ∧ LifeR E H B p eb w' (mExtend E s x).2.1 ∧ TryR B p eb xb w' (mExtend E s x).2.2 ∧ Kp [88, 145, 63] B p eb w w' := by
 have HE : Hid (EnvOk E) := hE
 clear hE
 go_enter Tryz.func161, Tryz.ntmps161
 go_wp2_with fail
 refine (load_at E HE.out H B p eb xb s x _ w hL hT hpos).mono ?_
 rintro e w1 ⟨rfl, hL1, hT1, hK1⟩
 have hov := hL1.over
 have HM : Hid (mExtend E s x = (if (mLoad E s 0).2.over then (-1, (mLoad E s 0).2, x) else if (mStill E x false x.reads (mLoad E s 0).2).1 = 0 then
        (0, { (mStill E x false x.reads (mLoad E s 0).2).2 with list := modLast (mStill E x false x.reads (mLoad E s 0).2).2.list fun a => { a with valid := (mLoad E s 0).1 } }, { x with valid := (mLoad E s 0).1 })
         else ((mStill E x false x.reads (mLoad E s 0).2).1, (mStill E x false x.reads (mLoad E s 0).2).2, x))) := rfl
 have hp1 : (mLoad E s 0).2.pos ≤ E.seen.length := (mAsk_pos E s _ hpos).2
 have HLi : Hid ((mLoad E s 0).2.list = s.list) := mAsk_list E s _
 clear hL hT
 generalize hq : mLoad E s 0 = q at *
 obtain ⟨c, s1⟩ := q
 clear hq
 have HL1 : Hid (LifeR E H B p eb w1 s1) := hL1
 have HT1 : Hid (TryR B p eb xb w1 x) := hT1
 have HK1 : Hid (Kp [88] B p eb w w1) := hK1
 clear hL1 hT1 hK1
 cases hso : s1.over with
 | true =>
  go_wp2
  go_ret
  exact ⟨by rw [HM.out, if_pos hso]; rfl, by rw [HM.out, if_pos hso]; exact HL1.out, by rw [HM.out, if_pos hso]; exact HT1.out, (HK1.out).wide (by simp)⟩
 | false =>
  have HM2 : Hid (mExtend E s x = (if (mStill E x false x.reads s1).1 = 0 then
         (0, { (mStill E x false x.reads s1).2 with list := modLast (mStill E x false x.reads s1).2.list fun a => { a with valid := c } }, { x with valid := c })
          else ((mStill E x false x.reads s1).1, (mStill E x false x.reads s1).2, x))) := by
   show _ = _
   rw [HM.out, if_neg (by simp [hso])]
  clear HM
  go_wp2_with fail
  refine (still_any E HE.out H B p eb xb s1 x false _ HL1.out HT1.out hp1 hm hm2 hst).mono ?_
  rintro e w2 ⟨rfl, hL2, hT2, hK2⟩
  have HLi2 : Hid ((mStill E x false x.reads s1).2.list = s.list) := (mStill_list E x false x.reads s1).trans HLi.out
  clear hov hso
  generalize hq2 : mStill E x false x.reads s1 = q2 at *
  obtain ⟨e2, s2⟩ := q2
  clear hq2
  by_cases he : e2 = 0
  ·subst he
   have HM3 : Hid (mExtend E s x = (0, { s2 with list := modLast s2.list fun a => { a with valid := c } }, { x with valid := c })) := by
    show _ = _
    rw [HM2.out]
    exact if_pos rfl
   clear HM2
   have hL2' : LifeR E H B p eb w2 s2 := hL2
   obtain ⟨g, lc, n, cur, hn, hb, hl, hgb, hgB, hsz⟩ := hL2'.last (by rw [show s2.list = s.list from HLi2.out]; exact hne)
   have hn42 : (n : Int) ≤ 4398046511104 := by have : s2.list.length = s.list.length := by rw [show s2.list = s.list from HLi2.out]
                                               omega
   have hc21 : w2.cell? ⟨p, 21, none⟩ = some (.slice (some ⟨g, 0, none⟩) (n + 1) lc) := by rw [hb.cell]; simp [lifeArr, hn]
   obtain ⟨u4, hg4⟩ : ∃ u, w2.cell? ⟨g, n * 8 + 4, none⟩ = some u := ⟨cur[n * 8 + 4]'(by omega), by rw [hgb.cell]; exact Array.getElem?_eq_getElem _⟩
   have hfg := hgb.frozen
   obtain ⟨ca, cc, ra, rc, wa, wc, ha, hc, hxc, hxf⟩ := hT2.cells
   have hx7 : w2.cell? ⟨xb, 7, none⟩ = some (.int .i64 x.valid) := by rw [hxc]; rfl
   have hf7 := hxf 7
   have hI0 : (0 : Int) ≤ (n : Int) := Int.natCast_nonneg _
   have hI2 : (n : Int) < (n : Int) + 1 := by omega
   have hpg : p ≠ g := Blk.ne hb hgb (by decide)
   have hgp : g ≠ p := fun e => hpg e.symm
   have hpx : p ≠ xb := by obtain ⟨_, _, _, _, _, _, _, _, hxb, _⟩ := hT2.blk; exact Blk.ne hb hxb (by decide)
   have hxp : xb ≠ p := fun e => hpx e.symm
   have hgx : g ≠ xb := by obtain ⟨_, _, _, _, _, _, _, _, hxb, _⟩ := hT2.blk; exact Blk.ne hgb hxb (by decide)
   have hxg : xb ≠ g := fun e => hgx e.symm
   have HL2 : Hid (LifeR E H B p eb w2 s2) := hL2
   have HT2 : Hid (TryR B p eb xb w2 x) := hT2
   have HK2 : Hid (Kp [88] B p eb w1 w2) := hK2
   have HN : Hid (s2.list.length = n + 1) := hn
   have HBk : Hid (Blk w2 p 88 (lifeArr E H (some ⟨g, 0, none⟩) lc s2)) := hb
   have HR : Hid (ListRep w2 B (some ⟨g, 0, none⟩) lc s2.list) := hl
   have HG : Hid (Blk w2 g 63 cur) := hgb
   clear hL2' hL2 hT2 hK2 hn hb hl hgb hxc hxf hne hlen hst hm hm2
   go_wp2_with fail
   go_region
   all_goals
    go_wp2
    go_ret
    obtain ⟨hTa, hKa⟩ := (HT2.out).set (x' := { x with valid := c }) (i := 7) (v := .int .i64 c) (HL2.out).stat.size rfl rfl rfl rfl (HT2.out).regs (fun _ _ _ _ _ _ _ _ => rfl)
    have hLa := (HL2.out).keep hKa (by simp) (by simp) (by simp) (by simp)
    obtain ⟨hLb, hKb⟩ := hLa.num (j := 4) (v := c) (f := fun a => { a with valid := c }) HN.out ((HBk.out).keep hKa (by simp)) ((HR.out).keep hKa (by simp) (by simp)) ((HG.out).keep hKa (by simp)) hgB (by omega) (fun _ _ => rfl) (fun _ => rfl)
    have hTb := hTa.keep hKb (by simp) (by simp) (by simp)
    refine ⟨by rw [HM3.out]; rfl, by rw [HM3.out]; exact hLb.drew, by rw [HM3.out]; exact hTb.drew, ?_⟩
    exact ((((HK1.out).wide (by simp)).trans ((HK2.out).wide (by simp))).trans ((hKa.wide (by simp)).trans (hKb.wide (by simp)))).drew
  ·have hbe : (e2 == 0) = false := by simp [he]
   have HM3 : Hid (mExtend E s x = (e2, s2, x)) := by
    show _ = _
    rw [HM2.out]
    exact if_neg he
   clear HM2
   have HL2 : Hid (LifeR E H B p eb w2 s2) := hL2
   have HT2 : Hid (TryR B p eb xb w2 x) := hT2
   have HK2 : Hid (Kp [88] B p eb w1 w2) := hK2
   clear hL2 hT2 hK2 he
   go_wp2
   go_ret
   exact ⟨by rw [HM3.out]; rfl, by rw [HM3.out]; exact HL2.out, by rw [HM3.out]; exact HT2.out, ((HK1.out).wide (by simp)).trans ((HK2.out).wide (by simp))⟩
end Go.Proofs.YtejadojilncbjaaGreat
namespace Go.Proofs.YtejadojilncbjaaGreat
open Go.RowKit
set_option linter.unusedVariables false
theorem Tryz.info160 : (Tryz.prog.info? 160).map (fun i => (i.zero, i.size, i.bytes)) = some (some (.agg #[.int .i64 0, .int .i64 0]), 2, 16) := by kernel_rfl
theorem Tryz.info3 : (Tryz.prog.info? 3).map (fun i => (i.zero, i.size, i.bytes)) = some (some (.int .i64 0), 1, 8) := by kernel_rfl
section
variable {B p eb xb : Nat} {w w0 w1 : World} {x : TS} {ca ra wa ha : Option Addr} {cc rc wc hc g cap : Nat}
theorem tryAddRead {st v : Int} (hb : Blk w xb 145 (tryArr ca cc ra rc wa wc ha hc x)) (hcd : CodeIn w B ca x.code) (hcf : FarC B p eb ca x.code)
  (g3 : w.ownsRow B 160 2 (.slice ra x.reads.length rc) x.reads.length (x.reads.flatMap entCells)) (g4 : w.ownsRow B 160 2 (.slice wa x.writes.length wc) x.writes.length (x.writes.flatMap entCells))
  (g5 : w.ownsRow B 3 1 (.slice ha x.held.length hc) x.held.length (x.held.map (.int .i64 ·))) (g6 : ∀ k, (Value.slice ra x.reads.length rc).ownBlock = some k → (Value.slice wa x.writes.length wc).ownBlock ≠ some k)
  (hB : B ≤ w.heap.size) (hxB : B ≤ xb) (hr : x.regs.length = 4) (hb0 : Below w.heap.size w w0) (hgr : w0.grownBy w1 (Value.slice ra x.reads.length rc).ownBlock)
  (hown : w1.ownsRow B 160 2 (.slice (some ⟨g, 0, none⟩) (x.reads.length + 1) cap) (x.reads.length + 1) (x.reads.flatMap entCells ++ [.int .i64 st, .int .i64 v])) (hat : (Value.slice ra x.reads.length rc).ownBlock = some g ∨ g = w.heap.size + 1) :
  TryR B p eb xb (w1.setCell ⟨xb, 8, none⟩ (.slice (some ⟨g, 0, none⟩) (x.reads.length + 1) cap)) { x with reads := x.reads ++ [⟨st, v⟩] } ∧ Kp [145, 160] B p eb w (w1.setCell ⟨xb, 8, none⟩ (.slice (some ⟨g, 0, none⟩) (x.reads.length + 1) cap)) := by
 have hk0 : Kp [] B p eb w w0 := Kp.below hb0 hB
 have hk1 : Kp [160] B p eb w0 w1 := Kp.grown hgr (Nat.le_trans hB hb0.size) (ownsRow_keep g3 hk0 (by simp)) (by simp)
 have hb1 : Blk w1 xb 145 (tryArr ca cc ra rc wa wc ha hc x) := (hb.keep hk0 (by simp)).keep hk1 (by simp)
 have hk2 : Kp [145] B p eb w1 (w1.setCell ⟨xb, 8, none⟩ (.slice (some ⟨g, 0, none⟩) (x.reads.length + 1) cap)) := Kp.only (Only.refl _ _).set (by have := hb0.size; have := hgr.size; omega) hb1 (by simp) (Or.inr (Or.inr hxB))
 have hk := (hk0.up (chg := [145, 160])).trans ((hk1.wide (by simp)).trans (hk2.wide (by simp)))
 have g4' : w1.ownsRow B 160 2 (.slice wa x.writes.length wc) x.writes.length (x.writes.flatMap entCells) := by
  refine (ownsRow_keep g4 hk0 (by simp)).kept hgr ?_
  cases hw : (Value.slice wa x.writes.length wc).ownBlock with
  | none => exact Or.inl rfl
  | some k => exact Or.inr (fun e => g6 k e.symm hw)
 refine ⟨⟨⟨ca, cc, some ⟨g, 0, none⟩, cap, wa, wc, ha, hc, hb1.set.congr ?_, hcd.keep hcf hk, hcf, ?_, ownsRow_keep g4' hk2 (by simp), ownsRow_keep g5 hk (by simp), ?_⟩, hxB, hr⟩, hk⟩
 ·simp [tryArr]
 ·have := ownsRow_keep hown hk2 (by simp)
  simpa [List.flatMap_append, entCells] using this
 ·intro k hk' hw
  simp [Value.ownBlock] at hk'
  subst hk'
  rcases hat with hat | hat
  ·exact g6 g hat hw
  ·have := (g4.lt g hw).2; omega
theorem tryAddWrite {a v : Int} (hb : Blk w xb 145 (tryArr ca cc ra rc wa wc ha hc x)) (hcd : CodeIn w B ca x.code) (hcf : FarC B p eb ca x.code)
  (g3 : w.ownsRow B 160 2 (.slice ra x.reads.length rc) x.reads.length (x.reads.flatMap entCells)) (g4 : w.ownsRow B 160 2 (.slice wa x.writes.length wc) x.writes.length (x.writes.flatMap entCells))
  (g5 : w.ownsRow B 3 1 (.slice ha x.held.length hc) x.held.length (x.held.map (.int .i64 ·))) (g6 : ∀ k, (Value.slice ra x.reads.length rc).ownBlock = some k → (Value.slice wa x.writes.length wc).ownBlock ≠ some k)
  (hB : B ≤ w.heap.size) (hxB : B ≤ xb) (hr : x.regs.length = 4) (hb0 : Below w.heap.size w w0) (hgr : w0.grownBy w1 (Value.slice wa x.writes.length wc).ownBlock)
  (hown : w1.ownsRow B 160 2 (.slice (some ⟨g, 0, none⟩) (x.writes.length + 1) cap) (x.writes.length + 1) (x.writes.flatMap entCells ++ [.int .i64 a, .int .i64 v])) (hat : (Value.slice wa x.writes.length wc).ownBlock = some g ∨ g = w.heap.size + 1) :
  TryR B p eb xb (w1.setCell ⟨xb, 9, none⟩ (.slice (some ⟨g, 0, none⟩) (x.writes.length + 1) cap)) { x with writes := x.writes ++ [⟨a, v⟩] } ∧ Kp [145, 160] B p eb w (w1.setCell ⟨xb, 9, none⟩ (.slice (some ⟨g, 0, none⟩) (x.writes.length + 1) cap)) := by
 have hk0 : Kp [] B p eb w w0 := Kp.below hb0 hB
 have hk1 : Kp [160] B p eb w0 w1 := Kp.grown hgr (Nat.le_trans hB hb0.size) (ownsRow_keep g4 hk0 (by simp)) (by simp)
 have hb1 : Blk w1 xb 145 (tryArr ca cc ra rc wa wc ha hc x) := (hb.keep hk0 (by simp)).keep hk1 (by simp)
 have hk2 : Kp [145] B p eb w1 (w1.setCell ⟨xb, 9, none⟩ (.slice (some ⟨g, 0, none⟩) (x.writes.length + 1) cap)) := Kp.only (Only.refl _ _).set (by have := hb0.size; have := hgr.size; omega) hb1 (by simp) (Or.inr (Or.inr hxB))
 have hk := (hk0.up (chg := [145, 160])).trans ((hk1.wide (by simp)).trans (hk2.wide (by simp)))
 have g3' : w1.ownsRow B 160 2 (.slice ra x.reads.length rc) x.reads.length (x.reads.flatMap entCells) := by
  refine (ownsRow_keep g3 hk0 (by simp)).kept hgr ?_
  cases hw : (Value.slice ra x.reads.length rc).ownBlock with
  | none => exact Or.inl rfl
  | some k => exact Or.inr (fun e => g6 k hw e.symm)
 refine ⟨⟨⟨ca, cc, ra, rc, some ⟨g, 0, none⟩, cap, ha, hc, hb1.set.congr ?_, hcd.keep hcf hk, hcf, ownsRow_keep g3' hk2 (by simp), ?_, ownsRow_keep g5 hk (by simp), ?_⟩, hxB, hr⟩, hk⟩
 ·simp [tryArr]
 ·have := ownsRow_keep hown hk2 (by simp)
  simpa [List.flatMap_append, entCells] using this
 ·intro k hk' hw
  simp [Value.ownBlock] at hw
  subst hw
  rcases hat with hat | hat
  ·exact g6 g hk' hat
  ·have := (g3.lt g hk').2; omega
theorem tryAddHeld {st : Int} (hb : Blk w xb 145 (tryArr ca cc ra rc wa wc ha hc x)) (hcd : CodeIn w B ca x.code) (hcf : FarC B p eb ca x.code)
  (g3 : w.ownsRow B 160 2 (.slice ra x.reads.length rc) x.reads.length (x.reads.flatMap entCells)) (g4 : w.ownsRow B 160 2 (.slice wa x.writes.length wc) x.writes.length (x.writes.flatMap entCells))
  (g5 : w.ownsRow B 3 1 (.slice ha x.held.length hc) x.held.length (x.held.map (.int .i64 ·))) (g6 : ∀ k, (Value.slice ra x.reads.length rc).ownBlock = some k → (Value.slice wa x.writes.length wc).ownBlock ≠ some k)
  (hB : B ≤ w.heap.size) (hxB : B ≤ xb) (hr : x.regs.length = 4) (hb0 : Below w.heap.size w w0) (hgr : w0.grownBy w1 (Value.slice ha x.held.length hc).ownBlock)
  (hown : w1.ownsRow B 3 1 (.slice (some ⟨g, 0, none⟩) (x.held.length + 1) cap) (x.held.length + 1) (x.held.map (Value.int .i64 ·) ++ [.int .i64 st])) :
  TryR B p eb xb (w1.setCell ⟨xb, 10, none⟩ (.slice (some ⟨g, 0, none⟩) (x.held.length + 1) cap)) { x with held := x.held ++ [st] } ∧ Kp [145, 3] B p eb w (w1.setCell ⟨xb, 10, none⟩ (.slice (some ⟨g, 0, none⟩) (x.held.length + 1) cap)) := by
 have hk0 : Kp [] B p eb w w0 := Kp.below hb0 hB
 have hk1 : Kp [3] B p eb w0 w1 := Kp.grown hgr (Nat.le_trans hB hb0.size) (ownsRow_keep g5 hk0 (by simp)) (by simp)
 have hb1 : Blk w1 xb 145 (tryArr ca cc ra rc wa wc ha hc x) := (hb.keep hk0 (by simp)).keep hk1 (by simp)
 have hk2 : Kp [145] B p eb w1 (w1.setCell ⟨xb, 10, none⟩ (.slice (some ⟨g, 0, none⟩) (x.held.length + 1) cap)) := Kp.only (Only.refl _ _).set (by have := hb0.size; have := hgr.size; omega) hb1 (by simp) (Or.inr (Or.inr hxB))
 have hk := (hk0.up (chg := [145, 3])).trans ((hk1.wide (by simp)).trans (hk2.wide (by simp)))
 refine ⟨⟨⟨ca, cc, ra, rc, wa, wc, some ⟨g, 0, none⟩, cap, hb1.set.congr ?_, hcd.keep hcf hk, hcf, ownsRow_keep g3 hk (by simp), ownsRow_keep g4 hk (by simp), ?_, g6⟩, hxB, hr⟩, hk⟩
 ·simp [tryArr]
 ·have := ownsRow_keep hown hk2 (by simp)
  simpa using this
end
theorem mAsk_dead {E : Env} {s : LS} {q : AskD} (h : s.over = true) : mAsk E s q = (0, s) := by simp [mAsk, h]
theorem mAsk_adv (E : Env) (s : LS) (q : AskD) (h : s.over = false) (hp : s.pos ≤ E.seen.length) : (mAsk E s q).2.over = true ∨ ((mAsk E s q).2.over = false ∧ (mAsk E s q).2.pos = s.pos + 1) := by
 by_cases hl : E.seen.length ≤ s.pos
 ·left; simp [mAsk, h, hl]
 ·right; simp [mAsk, h, hl]
def enough (E : Env) (s : LS) (n : Nat) : Prop := 1 ≤ n ∧ (s.over = false → E.seen.length - s.pos + 2 ≤ n)
theorem enough_fuel (E : Env) (s : LS) : enough E s (loopFuel E s) := ⟨by unfold loopFuel; omega, fun _ => Nat.le_refl _⟩
theorem enough_next {E : Env} {s s' : LS} {n : Nat} (h : enough E s (n + 1)) (ho : s.over = false) (hs : s'.over = true ∨ s.pos < s'.pos) (hp : s'.pos ≤ E.seen.length) : enough E s' n := by
 have h2 := h.2 ho
 refine ⟨by omega, fun h' => ?_⟩
 rcases hs with hs | hs
 ·rw [hs] at h'; cases h'
 ·omega
end Go.Proofs.YtejadojilncbjaaGreat
