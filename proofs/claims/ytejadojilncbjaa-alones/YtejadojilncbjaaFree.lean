import Derived.Test.YtejadojilncbjaaFind
namespace Go.Proofs.Ytejadojilncbjaa
open Go.RowKit
set_option linter.unusedVariables false
attribute [local go_sem ↓] Go.wp_at_zero Go.wp_at_succ

/-- The cells of a life that never turn. -/
abbrev HeadAt (E : Env) (H : Hd) (p : Nat) (w : World) : Prop :=
  ∀ i, i < 10 → w.cell? ⟨p, i, none⟩ = (#[.int .i64 E.c.t, .int .i64 E.c.wd, .int .i64 E.c.s, .int .i64 E.c.g, .int .i64 E.c.r, .int .i64 E.c.cp, .int .i64 E.c.f, .slice H.ma H.ml H.mc, .slice H.ja E.jobs.length H.jc, .int .i64 E.me] : Array Value)[i]?

theorem lt10 {i : Nat} (h : i < 10) : i = 0 ∨ i = 1 ∨ i = 2 ∨ i = 3 ∨ i = 4 ∨ i = 5 ∨ i = 6 ∨ i = 7 ∨ i = 8 ∨ i = 9 := by omega

theorem LifeR.head {E : Env} {H : Hd} {B p eb : Nat} {w : World} {s : LS} (h : LifeR E H B p eb w s) : HeadAt E H p w := by
  obtain ⟨la, lc, hb, _⟩ := h.life
  intro i hi
  rw [hb.cell]
  rcases lt10 hi with rfl | rfl | rfl | rfl | rfl | rfl | rfl | rfl | rfl | rfl <;> rfl

theorem LifeR.below {E : Env} {H : Hd} {B p eb : Nat} {w w' : World} {s : LS} (h : LifeR E H B p eb w s) (hb : Below w.heap.size w w') : LifeR E H B p eb w' s :=
  h.keep (chg := []) (Kp.below hb h.stat.size) (by simp) (by simp) (by simp) (by simp)
theorem TryR.below {B p eb xb : Nat} {w w' : World} {x : TS} (h : TryR B p eb xb w x) (hb : Below w.heap.size w w') (hB : B ≤ w.heap.size) : TryR B p eb xb w' x :=
  h.keep (chg := []) (p := p) (eb := eb) (Kp.below hb hB) (by simp) (by simp) (by simp)
theorem LifeR.drewN {E : Env} {H : Hd} {B p eb : Nat} {w : World} {s : LS} (h : LifeR E H B p eb w s) (n : Nat) : LifeR E H B p eb (w.drewN n) s := h.below (below_drewN (Below.refl _ _) n)
theorem LifeR.drew {E : Env} {H : Hd} {B p eb : Nat} {w : World} {s : LS} (h : LifeR E H B p eb w s) : LifeR E H B p eb w.drew s := h.below (Below.refl _ _).drew
theorem TryR.drewN {B p eb xb : Nat} {w : World} {x : TS} (h : TryR B p eb xb w x) (n : Nat) : TryR B p eb xb (w.drewN n) x := by
  obtain ⟨ca, cc, ra, rc, wa, wc, ha, hc, h1⟩ := h.blk
  exact ⟨⟨ca, cc, ra, rc, wa, wc, ha, hc, h1⟩, h.xB, h.regs⟩
theorem TryR.drew {B p eb xb : Nat} {w : World} {x : TS} (h : TryR B p eb xb w x) : TryR B p eb xb w.drew x := by
  obtain ⟨ca, cc, ra, rc, wa, wc, ha, hc, h1⟩ := h.blk
  exact ⟨⟨ca, cc, ra, rc, wa, wc, ha, hc, h1⟩, h.xB, h.regs⟩

/-- A try's held stripes, read where they lie. -/
theorem TryR.held {B p eb xb : Nat} {w : World} {x : TS} (h : TryR B p eb xb w x) : ∃ ha hc, w.cell? ⟨xb, 10, none⟩ = some (.slice ha x.held.length hc) ∧ NumsIn w ha x.held := by
  obtain ⟨ca, cc, ra, rc, wa, wc, ha, hc, hb, hcd, hcf, h3, h4, h5, h6⟩ := h.blk
  exact ⟨ha, hc, by rw [hb.cell]; rfl, nums_of h5⟩

theorem cell_tag {chg : List TypeId} {B p eb k i : Nat} {w w' : World} {t : TypeId} {cs : Array Value} (h : Blk w k t cs) (hk : Kp chg B p eb w w') (ht : t ∉ chg) : w'.cell? ⟨k, i, none⟩ = w.cell? ⟨k, i, none⟩ := by
  rw [h.cell, (h.keep hk ht).cell]

/-- What is read of the held stripes stays, if the call lets them alone. -/
theorem TryR.heldKeep {chg : List TypeId} {B p eb xb b hc : Nat} {w w' : World} {x : TS} (h : TryR B p eb xb w x) (hk : Kp chg B p eb w w') (h0 : 134 ∉ chg) (h2 : 3 ∉ chg)
    (hh : w.cell? ⟨xb, 10, none⟩ = some (.slice (some ⟨b, 0, none⟩) x.held.length hc)) (hn : 0 < x.held.length) :
    w'.cell? ⟨xb, 10, none⟩ = some (.slice (some ⟨b, 0, none⟩) x.held.length hc) ∧ ∀ i, w'.cell? ⟨b, i, none⟩ = w.cell? ⟨b, i, none⟩ := by
  obtain ⟨ca, cc, ra, rc, wa, wc, ha, hc', hb, hcd, hcf, h3, h4, h5, h6⟩ := h.blk
  refine ⟨by rw [cell_tag hb hk h0]; exact hh, fun i => ?_⟩
  rw [hb.cell] at hh
  obtain ⟨g, cap, cur, hv, _, hg, _⟩ := own_block h5 hn
  simp [tryArr] at hh
  simp at hv
  obtain ⟨rfl, _⟩ := hv
  simp at hh
  obtain ⟨rfl, _⟩ := hh
  exact cell_tag hg hk h2

def freeStep (E : Env) (s : LS) (h : Int) : LS := (mStore E s (cOwner E h) 0).2

theorem take_foldl {α β : Type} (f : β → α → β) (b : β) (l : List α) (k : Nat) (d : α) (h : k < l.length) : (l.take (k + 1)).foldl f b = f ((l.take k).foldl f b) (l.getD k d) := by
  rw [List.take_succ_eq_append_getElem h, List.foldl_append]
  simp [List.getD, List.getElem?_eq_getElem h]

theorem foldl_pos {α : Type} (E : Env) (f : LS → α → LS) (hf : ∀ s a, s.pos ≤ E.seen.length → s.pos ≤ (f s a).pos ∧ (f s a).pos ≤ E.seen.length) : ∀ (l : List α) (s : LS), s.pos ≤ E.seen.length → s.pos ≤ (l.foldl f s).pos ∧ (l.foldl f s).pos ≤ E.seen.length
  | [], s, h => ⟨Nat.le_refl _, h⟩
  | a :: l, s, h => by
    have h1 := hf s a h
    have h2 := foldl_pos E f hf l (f s a) h1.2
    exact ⟨Nat.le_trans h1.1 h2.1, h2.2⟩

theorem freeStep_pos (E : Env) (s : LS) (h : Int) (hp : s.pos ≤ E.seen.length) : s.pos ≤ (freeStep E s h).pos ∧ (freeStep E s h).pos ≤ E.seen.length := mAsk_pos E s _ hp

set_option maxHeartbeats 2000000 in
theorem free_any (E : Env) (hE : EnvOk E) (H : Hd) (B p eb xb : Nat) (s : LS) (x : TS) (w : World) (hL : LifeR E H B p eb w s) (hT : TryR B p eb xb w x) (hpos : s.pos ≤ E.seen.length)
    (hm : x.held.length ≤ 2 ^ 45) (hst : ∀ h ∈ x.held, -8 ≤ h ∧ h ≤ 8) :
    Calls Try.prog 68 #[.pointer (some ⟨p, 0, none⟩), .pointer (some ⟨xb, 0, none⟩)] w fun e w' =>
      e = .returned (.tuple #[]) ∧ LifeR E H B p eb w' (mFree E x s) ∧ TryR B p eb xb w' x ∧ Kp [78] B p eb w w' := by
  have HL : Hid (LifeR E H B p eb w s) := hL
  have HT : Hid (TryR B p eb xb w x) := hT
  obtain ⟨_, _, hs0, _⟩ := cfgB_true hE.cfg
  obtain ⟨hs1, hs2⟩ := hs0
  have HE : Hid (EnvOk E) := hE
  obtain ⟨ha, hc, hh, _⟩ := hT.held
  clear hL hT hE
  go_enter Try.func68, Try.ntmps68
  go_wp2
  go_loopw [4] (fun i wr => ∃ k : Nat, k ≤ x.held.length ∧ i = .int .i64 k ∧ LifeR E H B p eb wr ((x.held.take k).foldl (freeStep E) s) ∧ TryR B p eb xb wr x ∧ Kp [78] B p eb w wr) (fun i wr => x.held.length - (intOf i).toNat)
  case atStart => exact ⟨0, Nat.zero_le _, rfl, HL.out, HT.out, Kp.refl _ _ _ _ _⟩
  case round =>
    obtain ⟨k, hk, rfl, hL1, hT1, hK1⟩ := hrel
    have HL1 : Hid (LifeR E H B p eb wr ((x.held.take k).foldl (freeStep E) s)) := hL1
    have HT1 : Hid (TryR B p eb xb wr x) := hT1
    have HK1 : Hid (Kp [78] B p eb w wr) := hK1
    obtain ⟨ha1, hc1, hh1, hn1⟩ := hT1.held
    have hhd := hL1.head
    clear hL1 hT1 hK1
    by_cases hlt : k < x.held.length
    · obtain ⟨b, rfl, hcc⟩ := hn1 k hlt
      obtain ⟨z, hz⟩ : ∃ z, z = x.held.getD k 0 := ⟨_, rfl⟩
      have hzm : z ∈ x.held := by rw [hz]; simp [List.getD, List.getElem?_eq_getElem hlt]
      obtain ⟨hz1, hz2⟩ := hst z hzm
      rw [← hz] at hcc
      have HZ : Hid (z = x.held.getD k 0) := hz
      clear hz hzm hn1 hst
      have HPk : Hid (((x.held.take k).foldl (freeStep E) s).pos ≤ E.seen.length) := (foldl_pos E _ (freeStep_pos E) _ s hpos).2
      have HS0 : Hid (HeadAt E H p wr.drew ∧ wr.drew.cell? ⟨xb, 10, none⟩ = some (.slice (some ⟨b, 0, none⟩) x.held.length hc1) ∧ wr.drew.cell? ⟨b, k, none⟩ = some (.int .i64 z)) := ⟨(HL1.out).drew.head, hh1, hcc⟩
      go_wp2_with fail
      go_region_held3 (fun w' => HeadAt E H p w' ∧ w'.cell? ⟨xb, 10, none⟩ = some (.slice (some ⟨b, 0, none⟩) x.held.length hc1) ∧ w'.cell? ⟨b, k, none⟩ = some (.int .i64 z))
        (first | exact HS2.out | exact HS1.out | exact HS0.out)
        (first
          | (go_at_call 81; refine (ownerV _ _ _ _ _ _ _ _ _ _ _ _ _ _ _ hs1 hs2 (by omega) (by omega)).mono ?_; rintro e w1 ⟨rfl, hb1⟩; have HB1 : Hid (Below wr.heap.size wr w1) := (Below.refl _ _).drew.trans hb1; clear hb1;
             have HS1 : Hid (HeadAt E H p w1 ∧ w1.cell? ⟨xb, 10, none⟩ = some (.slice (some ⟨b, 0, none⟩) x.held.length hc1) ∧ w1.cell? ⟨b, k, none⟩ = some (.int .i64 z)) := ⟨((HL1.out).below HB1.out).head, ((HB1.out).cell (block_lt hh1)).trans hh1, ((HB1.out).cell (block_lt hcc)).trans hcc⟩)
          | (go_at_call 70; refine (storeL E HE.out H B p eb _ _ _ _ ((HL1.out).below HB1.out) HPk.out).mono ?_; rintro e w2 ⟨rfl, hL2, hK2⟩; have HL2 : Hid (LifeR E H B p eb w2 _) := hL2; have HK2 : Hid (Kp [78] B p eb w1 w2) := hK2; clear hL2 hK2;
             have HT2 : Hid (TryR B p eb xb w2 x) := ((HT1.out).below HB1.out HL1.out.stat.size).keep HK2.out (by simp) (by simp) (by simp);
             have HS2 : Hid (HeadAt E H p w2 ∧ w2.cell? ⟨xb, 10, none⟩ = some (.slice (some ⟨b, 0, none⟩) x.held.length hc1) ∧ w2.cell? ⟨b, k, none⟩ = some (.int .i64 z)) := ⟨(HL2.out).head, (((HT1.out).heldKeep ((Kp.below HB1.out HL1.out.stat.size).trans HK2.out) (by simp) (by simp) hh1 (by omega)).1), by rw [(((HT1.out).heldKeep ((Kp.below HB1.out HL1.out.stat.size).trans HK2.out) (by simp) (by simp) hh1 (by omega)).2 k)]; exact hcc⟩))
      go_wp2
      go_roundw
      case rel => exact ⟨k + 1, by omega, by go_num, by rw [take_foldl _ _ _ _ 0 hlt, ← HZ.out]; exact HL2.out, HT2.out, HK1.out.trans ((Kp.below HB1.out HL1.out.stat.size).trans HK2.out)⟩
      case measure => simp [intOf]; omega
    · have HF : Hid ((x.held.take k).foldl (freeStep E) s = mFree E x s) := by
        show _ = mFree E x s
        rw [List.take_of_length_le (by omega)]
        rfl
      go_wp2
      go_end0
      exact ⟨rfl, by rw [← HF.out]; exact HL1.out, HT1.out, HK1.out⟩

end Go.Proofs.Ytejadojilncbjaa
