import Derived.Test.YtejadojilncbjaaGreatG13
import Derived.Test.YtejadojilncbjaaGreatG10
namespace Go.Proofs.YtejadojilncbjaaGreat
open Go.RowKit
set_option linter.unusedVariables false
attribute [local go_sem ↓] Go.wp_at_zero Go.wp_at_succ
theorem wrapF (n : Int) (h1 : -1152921504606846976 ≤ n) (h2 : n ≤ 1152921504606846976) : IntKind.i64.wrap n = n := by rw [IntKind.wrap_i64]; omega
theorem LifeR.set {E : Env} {H : Hd} {B p eb i : Nat} {w : World} {s s' : LS} {v : Value} (hL : LifeR E H B p eb w s) (h1 : s'.list = s.list) (h2 : s'.ends = s.ends) (ha : ∀ la lc, (lifeArr E H la lc s).setIfInBounds i v = lifeArr E H la lc s') :
  LifeR E H B p eb (w.setCell ⟨p, i, none⟩ v) s' ∧ Kp [88] B p eb w (w.setCell ⟨p, i, none⟩ v) := by
 obtain ⟨la, lc, hb, hl⟩ := hL.life
 have hk : Kp [88] B p eb w (w.setCell ⟨p, i, none⟩ v) := Kp.only (Only.refl _ _).set hL.stat.size hb (by simp) (Or.inl rfl)
 refine ⟨⟨hL.stat.keep hk, ⟨la, lc, hb.set.congr (ha la lc), by rw [h1]; exact hl.keep hk (by simp) (by simp)⟩, ?_, hL.pB, hL.eB, hL.pe⟩, hk⟩
 rw [h2]
 exact hL.ends.imp id (fun ⟨a, b⟩ => ⟨a, b.keep hk (by simp)⟩)
theorem LifeR.fz {E : Env} {H : Hd} {B p eb : Nat} {w : World} {s : LS} (h : LifeR E H B p eb w s) : ∀ i, w.frozen? ⟨p, i, none⟩ = false := by
 obtain ⟨la, lc, hb, _⟩ := h.life
 exact hb.frozen
def mAfter (E : Env) (win : Int) (s : LS) : Int × LS :=
 let s6 := if 0 ≤ win then mWait E win (loopFuel E s) s else mRest E (E.draws.getD (s.pos - 1) 0) s
 if s6.over then (-1, s6) else (5, s6)
def mFailed (E : Env) (s4 : LS) (way : Int) : Int × LS :=
 let q := mStore E s4 (cStatus E E.me) (8 * s4.rank)
 if q.2.over then (-1, q.2) else mAfter E (if 0 < q.1.tmod 8 then q.1.tmod 8 - 1 else way) (mEnded E q.2 5)
theorem mFail_eq (E : Env) (s : LS) (x : TS) : mFail E s x = (if (mFree E x (if x.inGate then (mStore E s 2 0).2 else s)).over then (-1, mFree E x (if x.inGate then (mStore E s 2 0).2 else s)) else
     mFailed E (if (mFree E x (if x.inGate then (mStore E s 2 0).2 else s)).rank = 0 ∧ E.c.r < (mFree E x (if x.inGate then (mStore E s 2 0).2 else s)).fails + 1 then
         { (mAsk E { mFree E x (if x.inGate then (mStore E s 2 0).2 else s) with fails := (mFree E x (if x.inGate then (mStore E s 2 0).2 else s)).fails + 1 } ⟨4, 1, 0, 0⟩).2 with rank := (mAsk E { mFree E x (if x.inGate then (mStore E s 2 0).2 else s) with fails := (mFree E x (if x.inGate then (mStore E s 2 0).2 else s)).fails + 1 } ⟨4, 1, 0, 0⟩).1 + 1 }
         else { mFree E x (if x.inGate then (mStore E s 2 0).2 else s) with fails := (mFree E x (if x.inGate then (mStore E s 2 0).2 else s)).fails + 1 }) x.way) := rfl
theorem mFree_pos (E : Env) (x : TS) (s : LS) (h : s.pos ≤ E.seen.length) : s.pos ≤ (mFree E x s).pos ∧ (mFree E x s).pos ≤ E.seen.length := foldl_pos E _ (freeStep_pos E) x.held s h
theorem mFree_fields (E : Env) (x : TS) (s : LS) : (mFree E x s).list = s.list ∧ (mFree E x s).rank = s.rank ∧ (mFree E x s).fails = s.fails := by
 unfold mFree
 generalize x.held = l
 induction l generalizing s with
 | nil => exact ⟨rfl, rfl, rfl⟩
 | cons a l ih =>
  obtain ⟨h1, h2, h3⟩ := ih (mStore E s (cOwner E a) 0).2
  exact ⟨h1.trans (mAsk_list E s _), h2.trans (mAsk_rank E s _), h3.trans (mAsk_fails E s _)⟩
set_option maxRecDepth 100000 in
set_option maxHeartbeats 8000000 in
theorem fail_any (E : Env) (hE : EnvOk E) (H : Hd) (B p eb xb : Nat) (s : LS) (x : TS) (w : World) (hL : LifeR E H B p eb w s) (hT : TryR B p eb xb w x) (hpos : s.pos ≤ E.seen.length) (hp0 : 0 < s.pos) (hne : s.list ≠ []) (hlen : s.list.length ≤ 2 ^ 42)
  (hm2 : x.held.length ≤ 2 ^ 40) (hhd8 : ∀ h ∈ x.held, -8 ≤ h ∧ h ≤ 8) (hf0 : 0 ≤ s.fails) (hf1 : s.fails ≤ 2 ^ 46) (hr0 : 0 ≤ s.rank) (hr1 : s.rank ≤ 1125899906842625) (hw0 : -2 ≤ x.way) (hw1 : x.way ≤ 1125899906842624) :
  Calls Tryz.prog 86 #[.pointer (some ⟨p, 0, none⟩), .pointer (some ⟨xb, 0, none⟩)] w fun e w' =>
   e = .returned (.int .i64 (mFail E s x).1) ∧ LifeR E H B p eb w' (mFail E s x).2 ∧ TryR B p eb xb w' x ∧ Kp [88, 63] B p eb w w' := by
 have HE : Hid (EnvOk E) := hE
 have HL : Hid (LifeR E H B p eb w s) := hL
 have HT : Hid (TryR B p eb xb w x) := hT
 have hme0 := hE.me0
 have hme3 := hE.me3
 have HHD : Hid (∀ h ∈ x.held, -8 ≤ h ∧ h ≤ 8) := hhd8
 have HNE : Hid (s.list ≠ []) := hne
 obtain ⟨_, _, _, _, ⟨hrt1, hrt2⟩, _, _⟩ := cfgB_true hE.cfg
 obtain ⟨_, _, _, _, _, _, _, _, hxc, hxf⟩ := hT.cells
 have hx11 : w.cell? ⟨xb, 11, none⟩ = some (.bool x.inGate) := by rw [hxc]; rfl
 clear hE hL hT hhd8 hne hxc hxf
 obtain ⟨R, HR⟩ : ∃ R, Hid (mFail E s x = R) := ⟨_, rfl⟩
 rw [show mFail E s x = R from HR.out]
 have HU : Hid (R = _) := (HR.out).symm.trans (mFail_eq E s x)
 go_enter Tryz.func86, Tryz.ntmps86
 cases hig : x.inGate
 focus
  rw [hig] at HU hx11
  simp only [Bool.false_eq_true, if_false] at HU
  obtain ⟨w1, hw1'⟩ : ∃ w1, w1 = w := ⟨_, rfl⟩
  obtain ⟨s1, hs1'⟩ : ∃ s1, s1 = s := ⟨_, rfl⟩
  have HL1 : Hid (LifeR E H B p eb w1 s1) := by rw [hw1', hs1']; exact HL
  have HT1 : Hid (TryR B p eb xb w1 x) := by rw [hw1']; exact HT
  have HK1 : Hid (Kp [88] B p eb w w1) := by rw [hw1']; exact Kp.refl _ _ _ _ _
  have HF1 : Hid (s1.pos ≤ E.seen.length ∧ s.pos ≤ s1.pos ∧ s1.list = s.list ∧ s1.rank = s.rank ∧ s1.fails = s.fails) := by rw [hs1']; exact ⟨hpos, Nat.le_refl _, rfl, rfl, rfl⟩
  rw [← hs1'] at HU
  go_wp2_with fail
  rw [← hw1']
  clear hw1' hs1'
 rotate_left
 focus
  rw [hig] at HU hx11
  simp only [if_true] at HU
  go_wp2_with fail
  refine (store_at E HE.out H B p eb xb _ _ _ _ _ HL.out HT.out hpos).mono ?_
  rintro e w1 ⟨rfl, hL1, hT1, hK1⟩
  have HF1 : Hid ((mStore E s 2 0).2.pos ≤ E.seen.length ∧ s.pos ≤ (mStore E s 2 0).2.pos ∧ (mStore E s 2 0).2.list = s.list ∧ (mStore E s 2 0).2.rank = s.rank ∧ (mStore E s 2 0).2.fails = s.fails) :=
   ⟨(mAsk_pos E s _ hpos).2, (mAsk_pos E s _ hpos).1, mAsk_list E s _, mAsk_rank E s _, mAsk_fails E s _⟩
  have HL1 : Hid (LifeR E H B p eb w1 (mStore E s 2 0).2) := hL1
  have HT1 : Hid (TryR B p eb xb w1 x) := hT1
  have HK1 : Hid (Kp [88] B p eb w w1) := hK1
  clear hL1 hT1 hK1
  generalize mStore E s 2 0 = q1 at *
  obtain ⟨v1, s1⟩ := q1
  go_wp2_with fail
 all_goals
  refine (free_any E HE.out H B p eb xb _ _ _ HL1.out HT1.out (HF1.out).1 (by omega) HHD.out).mono ?_
  rintro e w2 ⟨rfl, hL2, hT2, hK2⟩
  have HP2 : Hid ((mFree E x s1).pos ≤ E.seen.length ∧ s1.pos ≤ (mFree E x s1).pos) := ⟨(mFree_pos E x s1 (HF1.out).1).2, (mFree_pos E x s1 (HF1.out).1).1⟩
  have HF2 : Hid ((mFree E x s1).list = s1.list ∧ (mFree E x s1).rank = s1.rank ∧ (mFree E x s1).fails = s1.fails) := mFree_fields E x s1
  have HL2 : Hid (LifeR E H B p eb w2 (mFree E x s1)) := hL2
  have HT2 : Hid (TryR B p eb xb w2 x) := hT2
  have HK2 : Hid (Kp [88] B p eb w w2) := (HK1.out).trans hK2
  clear hL2 hT2 hK2 HL1 HT1 HK1 hx11
  generalize mFree E x s1 = s2 at *
  have HG2 : Hid (s2.pos ≤ E.seen.length ∧ 0 < s2.pos ∧ s2.list = s.list ∧ 0 ≤ s2.rank ∧ s2.rank ≤ 1125899906842625 ∧ 0 ≤ s2.fails ∧ s2.fails ≤ 2 ^ 46) := by
   obtain ⟨a1, a2, a3, a4, a5⟩ := HF1.out
   obtain ⟨b1, b2⟩ := HP2.out
   obtain ⟨c1, c2, c3⟩ := HF2.out
   have a2' : s.pos ≤ s1.pos := a2
   have a4' : s1.rank = s.rank := a4
   have a5' : s1.fails = s.fails := a5
   exact ⟨b1, by omega, c1.trans a3, by omega, by omega, by omega, by omega⟩
  clear HF1 HP2 HF2
  have hov := (HL2.out).over
  cases ho2 : s2.over
  rotate_left
  focus
   have HF : Hid (R = (-1, s2)) := (HU.out).trans (if_pos ho2)
   clear HU
   go_wp2
   go_ret
   exact ⟨by rw [HF.out]; rfl, by rw [HF.out]; exact HL2.out, HT2.out, (HK2.out).wide (by simp)⟩
  have HU2 : Hid (R = mFailed E (if s2.rank = 0 ∧ E.c.r < s2.fails + 1 then { (mAsk E { s2 with fails := s2.fails + 1 } ⟨4, 1, 0, 0⟩).2 with rank := (mAsk E { s2 with fails := s2.fails + 1 } ⟨4, 1, 0, 0⟩).1 + 1 } else { s2 with fails := s2.fails + 1 }) x.way) := (HU.out).trans (if_neg (by simp [ho2]))
  clear HU
  obtain ⟨hq1, hq2, hq3, hq4, hq5, hq6, hq7⟩ := HG2.out
  obtain ⟨hrk, hfl, _⟩ := (HL2.out).nums
  have hfz19 := (HL2.out).fz 19
  have hfz20 := (HL2.out).fz 20
  have hhd := (HL2.out).head
  have hwf : IntKind.i64.wrap (s2.fails + 1) = s2.fails + 1 := wrapF _ (by omega) (by omega)
  have HLi2 : Hid (s2.list = s.list) := hq3
  clear hq3
  have hLK := (HL2.out).set (s' := { s2 with fails := s2.fails + 1 }) (i := 20) (v := .int .i64 (s2.fails + 1)) rfl rfl (fun _ _ => rfl)
  have HL3 : Hid (LifeR E H B p eb (w2.setCell ⟨p, 20, none⟩ (.int .i64 (s2.fails + 1))) { s2 with fails := s2.fails + 1 }) := hLK.1
  have HT3 : Hid (TryR B p eb xb (w2.setCell ⟨p, 20, none⟩ (.int .i64 (s2.fails + 1))) x) := (HT2.out).keep hLK.2 (by simp) (by simp) (by simp)
  have HK3 : Hid (Kp [88] B p eb w (w2.setCell ⟨p, 20, none⟩ (.int .i64 (s2.fails + 1)))) := (HK2.out).trans hLK.2
  clear hLK
  have hhd4 := hhd 4 (by omega)
  clear hhd
  simp at hhd4
  have hcs : (s2.rank = 0 ∧ E.c.r < s2.fails + 1) ∨ (s2.rank = 0 ∧ ¬ E.c.r < s2.fails + 1) ∨ ¬ s2.rank = 0 := by
   by_cases h : s2.rank = 0
   ·by_cases h2 : E.c.r < s2.fails + 1
    ·exact Or.inl ⟨h, h2⟩
    ·exact Or.inr (Or.inl ⟨h, h2⟩)
   ·exact Or.inr (Or.inr h)
  go_wp2_with fail
  rcases hcs with ⟨hc1, hc2⟩ | ⟨hc1, hc2⟩ | hc1
  focus
   have hbr : (s2.rank == 0) = true := by simp [hc1]
   have HU3 : Hid (R = mFailed E { (mAsk E { s2 with fails := s2.fails + 1 } ⟨4, 1, 0, 0⟩).2 with rank := (mAsk E { s2 with fails := s2.fails + 1 } ⟨4, 1, 0, 0⟩).1 + 1 } x.way) := by
    show _ = _
    rw [HU2.out]
    rw [if_pos ⟨hc1, hc2⟩]
   clear HU2 hc1
   go_quiet (fail)
   go_wp2_with fail
   refine (ask_at E HE.out H B p eb xb _ _ _ _ _ _ _ ((HL3.out).drewN nq) ((HT3.out).drewN nq) hq1).mono ?_
   rintro e w3 ⟨rfl, hLa, hTa, hKa⟩
   have hpA : (mAsk E { s2 with fails := s2.fails + 1 } ⟨4, 1, 0, 0⟩).2.pos ≤ E.seen.length := (mAsk_pos E { s2 with fails := s2.fails + 1 } _ hq1).2
   have hpB : 0 < (mAsk E { s2 with fails := s2.fails + 1 } ⟨4, 1, 0, 0⟩).2.pos := Nat.lt_of_lt_of_le hq2 (mAsk_pos E { s2 with fails := s2.fails + 1 } _ hq1).1
   have HLiA : Hid ((mAsk E { s2 with fails := s2.fails + 1 } ⟨4, 1, 0, 0⟩).2.list = s.list) := (mAsk_list E { s2 with fails := s2.fails + 1 } _).trans HLi2.out
   have HFlA : Hid ((mAsk E { s2 with fails := s2.fails + 1 } ⟨4, 1, 0, 0⟩).2.fails = s2.fails + 1) := mAsk_fails E { s2 with fails := s2.fails + 1 } _
   have hvA : -1 ≤ (mAsk E { s2 with fails := s2.fails + 1 } ⟨4, 1, 0, 0⟩).1 ∧ (mAsk E { s2 with fails := s2.fails + 1 } ⟨4, 1, 0, 0⟩).1 ≤ 1125899906842624 := mAsk_val E HE.out _ _
   have HKa : Hid (Kp [88] B p eb w w3) := ((HK3.out).drewN nq).trans hKa
   generalize mAsk E { s2 with fails := s2.fails + 1 } ⟨4, 1, 0, 0⟩ = qa at *
   obtain ⟨va, sa⟩ := qa
   have hwa : IntKind.i64.wrap (va + 1) = va + 1 := wrapF _ (by have := hvA.1; simp only at this; omega) (by have := hvA.2; simp only at this; omega)
   have hLK := LifeR.set (s := sa) (s' := { sa with rank := va + 1 }) (i := 19) (v := .int .i64 (va + 1)) hLa rfl rfl (fun _ _ => rfl)
   have hrka := (LifeR.nums (s := sa) hLa).1
   have hfza := (LifeR.fz hLa) 19
   have hTn := hTa.keep hLK.2 (by simp) (by simp) (by simp)
   have hKn := (HKa.out).trans hLK.2
   obtain ⟨hvA1, hvA2⟩ := hvA
   simp only at hvA1 hvA2 hpA hpB
   go_wp2_with fail
   obtain ⟨w4, hw4⟩ : ∃ w4, w4 = w3.setCell ⟨p, 19, none⟩ (.int .i64 (va + 1)) := ⟨_, rfl⟩
   obtain ⟨s4, hs4⟩ : ∃ s4 : LS, s4 = { sa with rank := va + 1 } := ⟨_, rfl⟩
   have HL4 : Hid (LifeR E H B p eb w4 s4) := by rw [hw4, hs4]; exact hLK.1
   have HT4 : Hid (TryR B p eb xb w4 x) := by rw [hw4]; exact hTn
   have HK4 : Hid (Kp [88] B p eb w w4) := by rw [hw4]; exact hKn
   have HU4 : Hid (R = mFailed E s4 x.way) := by rw [hs4]; exact HU3
   have HG4 : Hid (s4.pos ≤ E.seen.length ∧ 0 < s4.pos ∧ s4.list = s.list ∧ -1 ≤ s4.rank ∧ s4.rank ≤ 1125899906842625 ∧ 0 ≤ s4.fails) := by
    rw [hs4]
    have : sa.fails = s2.fails + 1 := HFlA.out
    exact ⟨hpA, hpB, HLiA.out, by show -1 ≤ va + 1; omega, by show va + 1 ≤ _; omega, by show 0 ≤ sa.fails; omega⟩
   rw [← hw4]
   clear hw4 hs4 hLK hLa hTa hKa hTn hKn HKa HU3 HLiA HFlA hrka hfza hpA hpB hvA1 hvA2 hwa
  rotate_left
  focus
   have hbr : (s2.rank == 0) = true := by simp [hc1]
   have hd : decide (E.c.r < s2.fails + 1) = false := by simpa using hc2
   have HU3 : Hid (R = mFailed E { s2 with fails := s2.fails + 1 } x.way) := by
    show _ = _
    rw [HU2.out]
    rw [if_neg (fun h => absurd h.2 (by omega))]
   clear HU2 hc1
   go_quiet (fail)
   go_wp2_with fail
   obtain ⟨w4, hw4⟩ : ∃ w4, w4 = (w2.setCell ⟨p, 20, none⟩ (.int .i64 (s2.fails + 1))).drewN nq := ⟨_, rfl⟩
   obtain ⟨s4, hs4⟩ : ∃ s4 : LS, s4 = { s2 with fails := s2.fails + 1 } := ⟨_, rfl⟩
   have HL4 : Hid (LifeR E H B p eb w4 s4) := by rw [hw4, hs4]; exact (HL3.out).drewN nq
   have HT4 : Hid (TryR B p eb xb w4 x) := by rw [hw4]; exact (HT3.out).drewN nq
   have HK4 : Hid (Kp [88] B p eb w w4) := by rw [hw4]; exact (HK3.out).drewN nq
   have HU4 : Hid (R = mFailed E s4 x.way) := by rw [hs4]; exact HU3
   have HG4 : Hid (s4.pos ≤ E.seen.length ∧ 0 < s4.pos ∧ s4.list = s.list ∧ -1 ≤ s4.rank ∧ s4.rank ≤ 1125899906842625 ∧ 0 ≤ s4.fails) := by
    rw [hs4]
    exact ⟨hq1, hq2, HLi2.out, by show -1 ≤ s2.rank; omega, hq5, by show 0 ≤ s2.fails + 1; omega⟩
   rw [← hw4]
   clear hw4 hs4 HU3 hd hc2
  rotate_left
  focus
   have hbr : (s2.rank == 0) = false := by simpa using hc1
   have HU3 : Hid (R = mFailed E { s2 with fails := s2.fails + 1 } x.way) := by
    show _ = _
    rw [HU2.out]
    rw [if_neg (fun h => hc1 h.1)]
   clear HU2 hc1
   go_quiet (fail)
   go_wp2_with fail
   obtain ⟨w4, hw4⟩ : ∃ w4, w4 = (w2.setCell ⟨p, 20, none⟩ (.int .i64 (s2.fails + 1))).drewN nq := ⟨_, rfl⟩
   obtain ⟨s4, hs4⟩ : ∃ s4 : LS, s4 = { s2 with fails := s2.fails + 1 } := ⟨_, rfl⟩
   have HL4 : Hid (LifeR E H B p eb w4 s4) := by rw [hw4, hs4]; exact (HL3.out).drewN nq
   have HT4 : Hid (TryR B p eb xb w4 x) := by rw [hw4]; exact (HT3.out).drewN nq
   have HK4 : Hid (Kp [88] B p eb w w4) := by rw [hw4]; exact (HK3.out).drewN nq
   have HU4 : Hid (R = mFailed E s4 x.way) := by rw [hs4]; exact HU3
   have HG4 : Hid (s4.pos ≤ E.seen.length ∧ 0 < s4.pos ∧ s4.list = s.list ∧ -1 ≤ s4.rank ∧ s4.rank ≤ 1125899906842625 ∧ 0 ≤ s4.fails) := by
    rw [hs4]
    exact ⟨hq1, hq2, HLi2.out, by show -1 ≤ s2.rank; omega, hq5, by show 0 ≤ s2.fails + 1; omega⟩
   rw [← hw4]
   clear hw4 hs4 HU3
  all_goals
   clear hrk hfl hfz19 hfz20 hhd4 hwf HL3 HT3 HK3 HL2 HT2 HK2 hq1 hq2 hq4 hq5 hq6 hq7 HG2 hov hbr HLi2
   obtain ⟨hg1, hg2, hg3, hg4, hg5, hg6⟩ := HG4.out
   have HLi4 : Hid (s4.list = s.list) := hg3
   have hw8 : IntKind.i64.wrap (8 * s4.rank) = 8 * s4.rank := wrapF _ (by omega) (by omega)
   clear hg3 HG4
   have HS0 : Hid (HeadAt E H p w4.drew ∧ w4.drew.cell? ⟨p, 19, none⟩ = some (.int .i64 s4.rank)) := ⟨(HL4.out).drew.head, (HL4.out).drew.nums.1⟩
   go_region_held3 (fun w' => HeadAt E H p w' ∧ w'.cell? ⟨p, 19, none⟩ = some (.int .i64 s4.rank))
    (first | exact HS2.out | exact HS1.out | exact HS0.out)
    (first
        | (go_at_call 88; refine (status_at E HE.out H B p eb xb _ _ _ _ (HL4.out).drew (HT4.out).drew (by omega) (by omega)).mono ?_; rintro e w5 ⟨rfl, hL2, hT2, hK2⟩; have HL5 : Hid (LifeR E H B p eb w5 s4) := hL2; have HT5 : Hid (TryR B p eb xb w5 x) := hT2; have HK5 : Hid (Kp [] B p eb w4 w5) := (Kp.below (Below.refl _ _).drew (HL4.out).stat.size).trans hK2; clear hL2 hT2 hK2;
           have HS1 : Hid (HeadAt E H p w5 ∧ w5.cell? ⟨p, 19, none⟩ = some (.int .i64 s4.rank)) := ⟨(HL5.out).head, (HL5.out).nums.1⟩)
        | (go_at_call 87; refine (store_at E HE.out H B p eb xb _ _ _ _ _ HL5.out HT5.out hg1).mono ?_; rintro e w6 ⟨rfl, hL3, hT3, hK3⟩; have HL6 : Hid (LifeR E H B p eb w6 (mStore E s4 (cStatus E E.me) (8 * s4.rank)).2) := hL3; have HT6 : Hid (TryR B p eb xb w6 x) := hT3; have HK6 : Hid (Kp [88] B p eb w w6) := (HK4.out).trans ((HK5.out).up.trans hK3); clear hL3 hT3 hK3;
           have HS2 : Hid (HeadAt E H p w6 ∧ w6.cell? ⟨p, 19, none⟩ = some (.int .i64 s4.rank)) := ⟨(HL6.out).head, by rw [(HL6.out).nums.1]; rw [show (mStore E s4 (cStatus E E.me) (8 * s4.rank)).2.rank = s4.rank from mAsk_rank E s4 _]⟩))
   clear HS0 HS1 HS2 HL5 HT5 HK5 HL4 HT4 HK4
   have hp6 : (mStore E s4 (cStatus E E.me) (8 * s4.rank)).2.pos ≤ E.seen.length := (mAsk_pos E s4 _ hg1).2
   have hp6' : 0 < (mStore E s4 (cStatus E E.me) (8 * s4.rank)).2.pos := Nat.lt_of_lt_of_le hg2 (mAsk_pos E s4 _ hg1).1
   have HLi6 : Hid ((mStore E s4 (cStatus E E.me) (8 * s4.rank)).2.list = s.list) := (mAsk_list E s4 _).trans HLi4.out
   have HFl6 : Hid (0 ≤ (mStore E s4 (cStatus E E.me) (8 * s4.rank)).2.fails) := by rw [show (mStore E s4 (cStatus E E.me) (8 * s4.rank)).2.fails = s4.fails from mAsk_fails E s4 _]; exact hg6
   have hval6 : -1 ≤ (mStore E s4 (cStatus E E.me) (8 * s4.rank)).1 ∧ (mStore E s4 (cStatus E E.me) (8 * s4.rank)).1 ≤ 1125899906842624 := mAsk_val E HE.out s4 _
   have HU5 : Hid (R = (if (mStore E s4 (cStatus E E.me) (8 * s4.rank)).2.over then (-1, (mStore E s4 (cStatus E E.me) (8 * s4.rank)).2) else mAfter E (if 0 < (mStore E s4 (cStatus E E.me) (8 * s4.rank)).1.tmod 8 then (mStore E s4 (cStatus E E.me) (8 * s4.rank)).1.tmod 8 - 1 else x.way) (mEnded E (mStore E s4 (cStatus E E.me) (8 * s4.rank)).2 5))) := HU4.out
   clear HU4
   generalize mStore E s4 (cStatus E E.me) (8 * s4.rank) = q6 at *
   obtain ⟨v6, s6⟩ := q6
   have HL6' : Hid (LifeR E H B p eb w6 s6) := HL6
   have hov6 := (HL6'.out).over
   clear HL6
   obtain ⟨hv6a, hv6b⟩ := hval6
   simp only at hp6 hp6' hv6a hv6b
   cases ho6 : s6.over
   rotate_left
   focus
    have HF : Hid (R = (-1, s6)) := (HU5.out).trans (if_pos ho6)
    clear HU5
    go_wp2
    go_ret
    exact ⟨by rw [HF.out]; rfl, by rw [HF.out]; exact HL6'.out, HT6.out, (HK6.out).wide (by simp)⟩
   have HU6 : Hid (R = mAfter E (if 0 < v6.tmod 8 then v6.tmod 8 - 1 else x.way) (mEnded E s6 5)) := (HU5.out).trans (if_neg (by simp [ho6]))
   clear HU5
   go_wp2_with fail
   refine (ended_any E HE.out H B p eb s6 5 _ HL6'.out (by rw [show s6.list = s.list from HLi6.out]; exact HNE.out) (by rw [show s6.list = s.list from HLi6.out]; exact hlen) hp6' hp6).mono ?_
   rintro e w7 ⟨rfl, hL7, hK7⟩
   have HL7 : Hid (LifeR E H B p eb w7 (mEnded E s6 5)) := hL7
   have HT7 : Hid (TryR B p eb xb w7 x) := (HT6.out).keep hK7 (by simp) (by simp) (by simp)
   have HK7 : Hid (Kp [88, 63] B p eb w w7) := ((HK6.out).wide (by simp)).trans (hK7.wide (by simp))
   have HP7 : Hid ((mEnded E s6 5).pos = s6.pos ∧ (mEnded E s6 5).fails = s6.fails) := ⟨rfl, rfl⟩
   obtain ⟨_, _, _, _, _, _, _, _, hxc, _⟩ := (HT7.out).cells
   have hx12 : w7.cell? ⟨xb, 12, none⟩ = some (.int .i64 x.way) := by rw [hxc]; rfl
   clear hL7 hK7 hxc HL6' HT6 HK6 hov6
   generalize hs7 : mEnded E s6 5 = s7 at *
   have hp7 : s7.pos ≤ E.seen.length := by rw [(HP7.out).1]; exact hp6
   have hp7' : 0 < s7.pos := by rw [(HP7.out).1]; exact hp6'
   have hfl7 : 0 ≤ s7.fails := by rw [(HP7.out).2]; exact HFl6.out
   clear hs7
   have hmod : v6.tmod 8 ≤ 8 ∧ -8 ≤ v6.tmod 8 := by
    by_cases h : 0 ≤ v6
    ·rw [Int.tmod_eq_emod_of_nonneg h]; omega
    ·have : v6 = -1 := by omega
     subst this
     decide
   obtain ⟨hmo1, hmo2⟩ := hmod
   clear hv6a hv6b hp6 hp6'
   obtain ⟨win, hwin⟩ : ∃ win, win = (if 0 < v6.tmod 8 then v6.tmod 8 - 1 else x.way) := ⟨_, rfl⟩
   rw [← hwin] at HU6
   have hwb : -8 ≤ win ∧ win ≤ 1125899906842624 := by rw [hwin]; split <;> omega
   obtain ⟨hwb1, hwb2⟩ := hwb
   have hww : win = v6.tmod 8 - 1 ∧ 0 < v6.tmod 8 ∨ win = x.way ∧ ¬ 0 < v6.tmod 8 := by
    by_cases h : 0 < v6.tmod 8
    ·left; exact ⟨hwin.trans (if_pos h), h⟩
    ·right; exact ⟨hwin.trans (if_neg h), h⟩
   clear hwin
   have HA : Hid (∀ h : 0 ≤ win, R = (if (mWait E win (loopFuel E s7) s7).over then (-1, mWait E win (loopFuel E s7) s7) else (5, mWait E win (loopFuel E s7) s7))) := fun h => by
    rw [HU6.out]
    unfold mAfter
    simp only [if_pos h]
   have HB : Hid (∀ h : ¬ 0 ≤ win, R = (if (mRest E (E.draws.getD (s7.pos - 1) 0) s7).over then (-1, mRest E (E.draws.getD (s7.pos - 1) 0) s7) else (5, mRest E (E.draws.getD (s7.pos - 1) 0) s7))) := fun h => by
    rw [HU6.out]
    unfold mAfter
    simp only [if_neg h]
   clear HU6
   by_cases hwin0 : 0 ≤ win
   ·have HUw : Hid (R = _) := HA.out hwin0
    clear HA HB
    rcases hww with ⟨hwe, hw8'⟩ | ⟨hwe, hw8'⟩
    all_goals
     subst hwe
     go_wp2_with fail
     refine (wait_any E HE.out H B p eb s7 _ _ HL7.out hp7 hwb1 hwb2).mono ?_
     rintro e w8 ⟨rfl, hL8, hK8⟩
     generalize mWait E _ (loopFuel E s7) s7 = s8 at *
     have hov8 := hL8.over
     have HL8 : Hid (LifeR E H B p eb w8 s8) := hL8
     have HT8 : Hid (TryR B p eb xb w8 x) := (HT7.out).keep hK8 (by simp) (by simp) (by simp)
     have HK8 : Hid (Kp [88, 63] B p eb w w8) := (HK7.out).trans (hK8.wide (by simp))
     clear hL8 hK8
     cases ho8 : s8.over with
     | true =>
      have HF : Hid (R = (-1, s8)) := (HUw.out).trans (if_pos ho8)
      clear HUw
      go_wp2
      go_ret
      exact ⟨by rw [HF.out]; rfl, by rw [HF.out]; exact HL8.out, HT8.out, HK8.out⟩
     | false =>
      have HF : Hid (R = (5, s8)) := (HUw.out).trans (if_neg (by simp [ho8]))
      clear HUw
      go_wp2
      go_ret
      exact ⟨by rw [HF.out]; rfl, by rw [HF.out]; exact HL8.out, HT8.out, HK8.out⟩
   ·have HUw : Hid (R = _) := HB.out hwin0
    clear HA HB
    have hw8' : ¬ 0 < v6.tmod 8 := by omega
    have hwe : win = x.way := by omega
    clear hww
    subst hwe
    obtain ⟨m, hm⟩ : ∃ m, s7.pos = m + 1 := ⟨s7.pos - 1, by omega⟩
    have hdl := (HE.out).dlen
    have hel := (HE.out).len
    obtain ⟨b, off, hda, hdb, hdc⟩ := (HL7.out).stat.draws m (by omega)
    obtain ⟨z, hz⟩ : ∃ z, z = E.draws.getD m 0 := ⟨_, rfl⟩
    rw [← hz] at hdc
    obtain ⟨la7, lc7, hb7, _⟩ := (HL7.out).life
    have hc11 : w7.cell? ⟨p, 11, none⟩ = some (.slice (some ⟨b, off, none⟩) E.draws.length H.dc) := by rw [hb7.cell]; simp [lifeArr, hda]
    have hc13 : w7.cell? ⟨p, 13, none⟩ = some (.int .i64 ((m : Int) + 1)) := by rw [hb7.cell]; simp [lifeArr, hm]
    have hm0 : (0 : Int) ≤ (m : Int) := Int.natCast_nonneg _
    have hm1 : (m : Int) < (E.draws.length : Int) := by omega
    have hm2' : (m : Int) ≤ 35184372088832 := by omega
    have hwm : IntKind.i64.wrap ((m : Int) + 1 - 1) = (m : Int) := by rw [show (m : Int) + 1 - 1 = (m : Int) from by omega]; exact wrapF _ (by omega) (by omega)
    have hwm2 : IntKind.i64.wrap (m : Int) = (m : Int) := wrapF _ (by omega) (by omega)
    have HUx : Hid (R = (if (mRest E z s7).over then (-1, mRest E z s7) else (5, mRest E z s7))) := by
     show _ = _
     rw [HUw.out, hm, Nat.add_sub_cancel, hz]
    clear HUw hz hb7 hm hdl hel hda
    go_wp2_with fail
    go_region_with ((go_at_call 102; refine (rest_any E HE.out H B p eb s7 z _ (HL7.out).drew hp7 hfl7).mono ?_; rintro e w8 ⟨rfl, hL8, hK8⟩))
    all_goals
     generalize mRest E z s7 = s8 at *
     have hov8 := hL8.over
     have HL8 : Hid (LifeR E H B p eb w8 s8) := hL8
     have HT8 : Hid (TryR B p eb xb w8 x) := (HT7.out).drew.keep hK8 (by simp) (by simp) (by simp)
     have HK8 : Hid (Kp [88, 63] B p eb w w8) := (HK7.out).drew.trans (hK8.wide (by simp))
     clear hL8 hK8
     cases ho8 : s8.over with
     | true =>
      have HF : Hid (R = (-1, s8)) := (HUx.out).trans (if_pos ho8)
      clear HUx
      go_wp2
      go_ret
      exact ⟨by rw [HF.out]; rfl, by rw [HF.out]; exact HL8.out, HT8.out, HK8.out⟩
     | false =>
      have HF : Hid (R = (5, s8)) := (HUx.out).trans (if_neg (by simp [ho8]))
      clear HUx
      go_wp2
      go_ret
      exact ⟨by rw [HF.out]; rfl, by rw [HF.out]; exact HL8.out, HT8.out, HK8.out⟩
end Go.Proofs.YtejadojilncbjaaGreat
namespace Go.Proofs.YtejadojilncbjaaGreat
set_option linter.unusedVariables false
def Same (x x' : TS) : Prop := x'.code = x.code ∧ x'.place = x.place ∧ x'.begun = x.begun ∧ x'.writes = x.writes ∧ x'.regs = x.regs
theorem Same.refl (x : TS) : Same x x := ⟨rfl, rfl, rfl, rfl, rfl⟩
theorem Same.trans {a b c : TS} (h : Same a b) (k : Same b c) : Same a c := ⟨k.1.trans h.1, k.2.1.trans h.2.1, k.2.2.1.trans h.2.2.1, k.2.2.2.1.trans h.2.2.2.1, k.2.2.2.2.trans h.2.2.2.2⟩
theorem mExtend_same (E : Env) (s : LS) (x : TS) : Same x (mExtend E s x).2.2 := by
 unfold mExtend
 dsimp only
 split
 ·exact Same.refl _
 ·split
  ·exact ⟨rfl, rfl, rfl, rfl, rfl⟩
  ·exact Same.refl _
theorem mStands_same (E : Env) (x : TS) (a st : Int) : ∀ (n : Nat) (s : LS), Same x (mStands E x a st n s).2.2.2
 | 0, s => Same.refl _
 | n + 1, s => by
  unfold mStands
  split
  ·exact Same.refl _
  ·dsimp only
   split
   ·exact mStands_same E x a st n _
   ·split
    ·exact mStands_same E x a st n _
    ·have hx1 : Same x (if (entIdx x.reads st).isSome = true then x else { x with reads := x.reads ++ [⟨st, (mLoad E s (cVersion E st)).1⟩] }) := by
      split
      ·exact Same.refl _
      ·exact ⟨rfl, rfl, rfl, rfl, rfl⟩
     generalize (if (entIdx x.reads st).isSome = true then x else { x with reads := x.reads ++ [⟨st, (mLoad E s (cVersion E st)).1⟩] }) = x1 at hx1 ⊢
     split
     ·exact hx1
     ·exact hx1.trans (mExtend_same E _ _)
theorem mGet_same (E : Env) (x : TS) (st : Int) : ∀ (n : Nat) (s : LS), Same x (mGet E x st n s).2.2
 | 0, s => Same.refl _
 | n + 1, s => by
  unfold mGet
  split
  ·exact Same.refl _
  ·dsimp only
   split
   ·exact Same.refl _
   ·split
    ·exact Same.refl _
    ·split
     ·split
      ·exact ⟨rfl, rfl, rfl, rfl, rfl⟩
      ·split
       ·exact Same.trans (b := { x with held := x.held ++ [st] }) ⟨rfl, rfl, rfl, rfl, rfl⟩ (mExtend_same E _ _)
       ·exact ⟨rfl, rfl, rfl, rfl, rfl⟩
     ·split
      ·exact Same.refl _
      ·split
       ·exact ⟨rfl, rfl, rfl, rfl, rfl⟩
       ·split
        ·exact mGet_same E x st n _
        ·exact mGet_same E x st n _
def WvOk (x : TS) : Prop := ∀ e ∈ x.writes, -70000 ≤ e.val ∧ e.val ≤ 1125899906842624
structure StOk (E : Env) (m n : Nat) (s : LS) (x : TS) (s' : LS) (x' : TS) : Prop where
 pos : s'.pos ≤ E.seen.length
 mono : s.pos ≤ s'.pos
 notes : NotesOk m s'
 ts : TsOk n x'
 r0 : 0 ≤ s'.rank
 r1 : s'.rank ≤ 1125899906842625
 fails : s'.fails = s.fails
 len : s'.list.length = s.list.length
 code : x'.code = x.code
 ends : s'.ends = s.ends
 wv : WvOk x'
theorem SN.len {s s' : LS} (h : SN s s') : s'.list.length = s.list.length := by have := congrArg List.length h; simpa using this
theorem NotesOk.more {n m : Nat} {s : LS} (h : NotesOk n s) (hm : n ≤ m) : NotesOk m s := ⟨h.ne, h.len, fun a ha => Nat.le_trans (h.nt a ha) hm⟩
theorem NotesOk.noted {n : Nat} {s : LS} (h : NotesOk n s) (op addr val : Int) : NotesOk (n + 1) (mNoted s op addr val) := by
 have hl : (mNoted s op addr val).list.length = s.list.length := by simp [mNoted, modLast]
 refine ⟨fun e => h.ne ?_, by rw [hl]; exact h.len, fun a ha => ?_⟩
 ·rw [e] at hl; exact List.length_eq_zero_iff.1 hl.symm
 ·obtain ⟨i, hi, rfl⟩ := List.mem_iff_getElem.1 ha
  have h1 : (mNoted s op addr val).list[i]? = some ((mNoted s op addr val).list[i]) := List.getElem?_eq_getElem hi
  have hi' : i < s.list.length := by rw [← hl]; exact hi
  have h2 : (mNoted s op addr val).list[i]? = (s.list[i]?).map (if s.list.length - 1 = i then (fun a : AttD => { a with notes := a.notes ++ [⟨op, addr, val⟩] }) else id) := by
   show (modLast s.list _)[i]? = _
   unfold modLast
   rw [List.getElem?_modify]
   cases s.list[i]? with
   | none => rfl
   | some a => by_cases h : s.list.length - 1 = i <;> simp [h]
  rw [h1, List.getElem?_eq_getElem hi'] at h2
  have hb := h.nt s.list[i] (List.getElem_mem hi')
  simp at h2
  rw [h2]
  split
  ·simp; omega
  ·simp; omega
theorem mStill_ends (E : Env) (x : TS) (skip : Bool) : ∀ (l : List EntD) (s : LS), (mStill E x skip l s).2.ends = s.ends
 | [], s => rfl
 | e :: r, s => by
  have h1 : (mLoad E s (cVersion E e.what)).2.ends = s.ends := mAsk_ends E s _
  unfold mStill
  split
  ·exact mStill_ends E x skip r s
  ·show (if (mLoad E s (cVersion E e.what)).2.over = true then _ else if (mLoad E s (cVersion E e.what)).1 ≠ e.val then _ else _ : Int × LS).2.ends = _
   split
   ·exact h1
   ·split
    ·exact h1
    ·exact (mStill_ends E x skip r _).trans h1
theorem mExtend_ends (E : Env) (s : LS) (x : TS) : (mExtend E s x).2.1.ends = s.ends := by
 have h1 : (mLoad E s 0).2.ends = s.ends := mAsk_ends E s _
 have h2 := (mStill_ends E x false x.reads (mLoad E s 0).2).trans h1
 unfold mExtend
 dsimp only
 split
 ·exact h1
 ·split
  ·exact h2
  ·exact h2
theorem mStands_ends (E : Env) (x : TS) (a st : Int) : ∀ (n : Nat) (s : LS), (mStands E x a st n s).2.2.1.ends = s.ends
 | 0, s => rfl
 | n + 1, s => by
  have h1 : (mLoad E s (cVersion E st)).2.ends = s.ends := mAsk_ends E s _
  have h2 : (mLoad E (mLoad E s (cVersion E st)).2 (cWord E a)).2.ends = s.ends := (mAsk_ends E _ _).trans h1
  have h3 : (mLoad E (mLoad E (mLoad E s (cVersion E st)).2 (cWord E a)).2 (cVersion E st)).2.ends = s.ends := (mAsk_ends E _ _).trans h2
  unfold mStands
  split
  ·rfl
  ·dsimp only
   split
   ·exact (mStands_ends E x a st n _).trans h1
   ·split
    ·exact (mStands_ends E x a st n _).trans h3
    ·generalize (if (entIdx x.reads st).isSome = true then x else { x with reads := x.reads ++ [⟨st, (mLoad E s (cVersion E st)).1⟩] }) = x1
     split
     ·exact h3
     ·exact (mExtend_ends E _ _).trans h3
theorem mGet_ends (E : Env) (x : TS) (st : Int) : ∀ (n : Nat) (s : LS), (mGet E x st n s).2.1.ends = s.ends
 | 0, s => rfl
 | n + 1, s => by
  have h1 : (mLoad E s (cStatus E E.me)).2.ends = s.ends := mAsk_ends E s _
  have h2 : (mAsk E (mLoad E s (cStatus E E.me)).2 ⟨3, cOwner E st, 0, E.me + 1⟩).2.ends = s.ends := (mAsk_ends E _ _).trans h1
  unfold mGet
  split
  ·rfl
  ·dsimp only
   split
   ·exact h1
   ·split
    ·exact h2
    ·split
     ·have h3 : (mLoad E (mAsk E (mLoad E s (cStatus E E.me)).2 ⟨3, cOwner E st, 0, E.me + 1⟩).2 (cVersion E st)).2.ends = s.ends := (mAsk_ends E _ _).trans h2
      split
      ·exact h3
      ·split
       ·exact (mExtend_ends E _ _).trans h3
       ·exact h3
     ·split
      ·exact h2
      ·split
       ·exact (mAsk_ends E _ _).trans h2
       ·split
        ·exact (mGet_ends E x st n _).trans ((mAsk_ends E _ _).trans ((mAsk_ends E _ _).trans h2))
        ·exact (mGet_ends E x st n _).trans ((mAsk_ends E _ _).trans h2)
theorem tmodB' (a s : Int) (h1 : 1 ≤ s) (h2 : s ≤ 8) : -8 ≤ a.tmod s ∧ a.tmod s ≤ 8 := by
 have h3 := Int.tmod_lt_of_pos a (show 0 < s by omega)
 have h4 := Int.lt_tmod_of_pos a (show 0 < s by omega)
 omega
theorem mReadV_ok (E : Env) (hE : EnvOk E) {n : Nat} (s : LS) (x : TS) (a : Int) (hp : s.pos ≤ E.seen.length) (hX : TsOk n x) (hV : WvOk x) :
  LsOk E s (mReadV E s x a).2.2.1 ∧ TsOk (n + 1) (mReadV E s x a).2.2.2 ∧ Same x (mReadV E s x a).2.2.2 ∧ (mReadV E s x a).2.2.1.ends = s.ends ∧ (-70000 ≤ (mReadV E s x a).1 ∧ (mReadV E s x a).1 ≤ 1125899906842624) := by
 obtain ⟨_, _, ⟨hs1, hs2⟩, _⟩ := cfgB_true hE.cfg
 have hst := tmodB' a E.c.s hs1 hs2
 unfold mReadV
 dsimp only
 cases entIdx x.writes a with
 | some k =>
  refine ⟨LsOk.refl hp, hX.more (Nat.le_succ _), Same.refl _, rfl, ?_⟩
  dsimp only
  by_cases hk : k < x.writes.length
  ·rw [show x.writes.getD k ⟨0, 0⟩ = x.writes[k] from by simp [List.getD, List.getElem?_eq_getElem hk]]
   exact hV _ (List.getElem_mem hk)
  ·rw [show x.writes.getD k ⟨0, 0⟩ = ⟨0, 0⟩ from by simp [List.getD, List.getElem?_eq_none (show x.writes.length ≤ k by omega)]]
   simp
 | none =>
  dsimp only
  split
  ·have hv := mAsk_val E hE s ⟨1, cWord E a, 0, 0⟩
   exact ⟨mAsk_ok E s _ hp, hX.more (Nat.le_succ _), Same.refl _, mAsk_ends E s _, by show -70000 ≤ (mAsk E s _).1; omega, hv.2⟩
  ·obtain ⟨h1, h2, h3⟩ := mStands_ok E hE x a (a.tmod E.c.s) hst.1 hst.2 hX (loopFuel E s) s hp
   exact ⟨h1, h2, mStands_same E x _ _ _ _, mStands_ends E x _ _ _ _, by omega, h3.2⟩
theorem WvOk.of {x x' : TS} (h : WvOk x) (e : x'.writes = x.writes) : WvOk x' := fun y hy => h y (by rw [← e]; exact hy)
theorem mRead_ok (E : Env) (hE : EnvOk E) {m n : Nat} (s : LS) (x : TS) (i : InsD) (hp : s.pos ≤ E.seen.length) (hN : NotesOk m s) (hX : TsOk n x) (hV : WvOk x) (hr0 : 0 ≤ s.rank) (hr1 : s.rank ≤ 1125899906842625) :
  StOk E (m + 1) (n + 1) s x (mRead E s x i).2.1 (mRead E s x i).2.2 ∧ (mRead E s x i).2.2.place = x.place ∧ (mRead E s x i).2.2.begun = x.begun := by
 obtain ⟨k1, k2, k3, k4, k5⟩ := mReadV_ok E hE s x (regOf x i.b) hp hX hV
 unfold mRead
 dsimp only
 split
 ·exact ⟨⟨hp, Nat.le_refl _, hN.more (Nat.le_succ _), hX.more (Nat.le_succ _), hr0, hr1, rfl, rfl, rfl, rfl, hV⟩, rfl, rfl⟩
 ·split
  ·exact ⟨⟨k1.pos, k1.mono, (hN.sn k1.sn).more (Nat.le_succ _), k2, by rw [k1.rank]; exact hr0, by rw [k1.rank]; exact hr1, k1.fails, k1.sn.len, k3.1, k4, hV.of k3.2.2.2.1⟩, k3.2.1, k3.2.2.1⟩
  ·split
   ·exact ⟨⟨k1.pos, k1.mono, (hN.sn k1.sn).more (Nat.le_succ _), k2, by rw [k1.rank]; exact hr0, by rw [k1.rank]; exact hr1, k1.fails, k1.sn.len, k3.1, k4, hV.of k3.2.2.2.1⟩, k3.2.1, k3.2.2.1⟩
   ·have hn := (hN.sn k1.sn).noted 7 (regOf x i.b) (mReadV E s x (regOf x i.b)).1
    exact ⟨⟨k1.pos, k1.mono, hn, k2.setReg _ _ k5.1 k5.2, by show 0 ≤ (mReadV E s x (regOf x i.b)).2.2.1.rank; rw [k1.rank]; exact hr0, by show (mReadV E s x (regOf x i.b)).2.2.1.rank ≤ _; rw [k1.rank]; exact hr1, k1.fails,
           by rw [← k1.sn.len]; simp [mNoted, modLast], k3.1, k4, hV.of k3.2.2.2.1⟩, k3.2.1, k3.2.2.1⟩
theorem WvOk.put {x : TS} (h : WvOk x) (a v : Int) (h1 : -70000 ≤ v) (h2 : v ≤ 1125899906842624) : WvOk { x with writes := putEnt x.writes a v } := by
 intro e he
 have he' : e ∈ putEnt x.writes a v := he
 unfold putEnt at he'
 split at he'
 ·rcases List.mem_or_eq_of_mem_set he' with h3 | h3
  ·exact h e h3
  ·rw [h3]; exact ⟨h1, h2⟩
 ·rcases List.mem_append.1 he' with h3 | h3
  ·exact h e h3
  ·simp at h3; subst h3; exact ⟨h1, h2⟩
theorem mTicket_ok (E : Env) (hE : EnvOk E) {m n : Nat} (s : LS) (x : TS) (hp : s.pos ≤ E.seen.length) (hN : NotesOk m s) (hX : TsOk n x) (hV : WvOk x) (hr0 : 0 ≤ s.rank) (hr1 : s.rank ≤ 1125899906842625) :
  StOk E m n s x (mTicket E s x).2.1 (mTicket E s x).2.2 ∧ (mTicket E s x).2.2 = x := by
 have h1 := mAsk_ok E s ⟨4, 1, 0, 0⟩ hp
 have hv := mAsk_val E hE s ⟨4, 1, 0, 0⟩
 have e1 := mAsk_ends E s ⟨4, 1, 0, 0⟩
 unfold mTicket
 dsimp only
 split
 ·exact ⟨⟨h1.pos, h1.mono, hN.sn h1.sn, hX, by rw [h1.rank]; exact hr0, by rw [h1.rank]; exact hr1, h1.fails, h1.sn.len, rfl, e1, hV⟩, rfl⟩
 ·generalize mAsk E s ⟨4, 1, 0, 0⟩ = q at *
  have h2 := mAsk_ok E { q.2 with rank := q.1 + 1 } ⟨3, cStatus E E.me, 0, 8 * (q.1 + 1)⟩ h1.pos
  have e2 := mAsk_ends E { q.2 with rank := q.1 + 1 } ⟨3, cStatus E E.me, 0, 8 * (q.1 + 1)⟩
  generalize mAsk E { q.2 with rank := q.1 + 1 } ⟨3, cStatus E E.me, 0, 8 * (q.1 + 1)⟩ = q2 at *
  have hsn : SN s q2.2 := h1.sn.trans ((SN.of_list rfl : SN q.2 { q.2 with rank := q.1 + 1 }).trans h2.sn)
  have key : StOk E m n s x q2.2 x := ⟨h2.pos, Nat.le_trans h1.mono h2.mono, hN.sn hsn, hX, by rw [h2.rank]; show 0 ≤ q.1 + 1; omega, by rw [h2.rank]; show q.1 + 1 ≤ _; omega, h2.fails.trans h1.fails, hsn.len, rfl, e2.trans e1, hV⟩
  split
  ·exact ⟨key, rfl⟩
  ·split
   ·exact ⟨key, rfl⟩
   ·exact ⟨key, rfl⟩
theorem mWrote_ok (E : Env) (hE : EnvOk E) {m n : Nat} (s : LS) (x : TS) (i : InsD) (a : Int) (had : Bool) (ha1 : -70000 ≤ a) (ha2 : a ≤ 1125899906842624) (hp : s.pos ≤ E.seen.length) (hN : NotesOk m s) (hX : TsOk n x) (hV : WvOk x) (hr0 : 0 ≤ s.rank) (hr1 : s.rank ≤ 1125899906842625) :
  StOk E (m + 1) (n + 1) s x (mWrote E s x i a had).2.1 (mWrote E s x i a had).2.2 ∧ (mWrote E s x i a had).2.2.place = x.place ∧ (mWrote E s x i a had).2.2.begun = x.begun := by
 have hr := hX.reg i.b
 have hN1 := hN.noted 8 a (regOf x i.b)
 have hX1 := hX.putEnt a (regOf x i.b) ha1 ha2
 have hV1 := hV.put a (regOf x i.b) hr.1 hr.2
 have hl : (mNoted s 8 a (regOf x i.b)).list.length = s.list.length := by simp [mNoted, modLast]
 rw [mWrote_eq]
 split
 ·exact ⟨⟨hp, Nat.le_refl _, hN1, hX1, hr0, hr1, rfl, hl, rfl, rfl, hV1⟩, rfl, rfl⟩
 ·obtain ⟨k, e⟩ := mTicket_ok E hE (mNoted s 8 a (regOf x i.b)) { x with writes := putEnt x.writes a (regOf x i.b) } hp hN1 hX1 hV1 hr0 hr1
  exact ⟨⟨k.pos, k.mono, k.notes, k.ts, k.r0, k.r1, k.fails, k.len.trans hl, by rw [e], k.ends, k.wv⟩, by rw [e], by rw [e]⟩
theorem mWrite_ok (E : Env) (hE : EnvOk E) {m n : Nat} (s : LS) (x : TS) (i : InsD) (hp : s.pos ≤ E.seen.length) (hN : NotesOk m s) (hX : TsOk n x) (hV : WvOk x) (hr0 : 0 ≤ s.rank) (hr1 : s.rank ≤ 1125899906842625) :
  StOk E (m + 1) (n + 2) s x (mWrite E s x i).2.1 (mWrite E s x i).2.2 ∧ (mWrite E s x i).2.2.place = x.place ∧ (mWrite E s x i).2.2.begun = x.begun := by
 obtain ⟨_, _, ⟨hs1, hs2⟩, _⟩ := cfgB_true hE.cfg
 have hst := tmodB' (regOf x i.a) E.c.s hs1 hs2
 have hr := hX.reg i.a
 unfold mWrite
 dsimp only
 split
 ·exact ⟨⟨hp, Nat.le_refl _, hN.more (Nat.le_succ _), hX.more (by omega), hr0, hr1, rfl, rfl, rfl, rfl, hV⟩, rfl, rfl⟩
 ·split
  ·obtain ⟨k, p1, p2⟩ := mWrote_ok E hE s x i (regOf x i.a) true hr.1 hr.2 hp hN hX hV hr0 hr1
   exact ⟨⟨k.pos, k.mono, k.notes, k.ts.more (by omega), k.r0, k.r1, k.fails, k.len, k.code, k.ends, k.wv⟩, p1, p2⟩
  ·obtain ⟨g1, g2⟩ := mGet_ok E hE x ((regOf x i.a).tmod E.c.s) hst.1 hst.2 hX (loopFuel E s) s hp
   have g3 := mGet_same E x ((regOf x i.a).tmod E.c.s) (loopFuel E s) s
   have g4 := mGet_ends E x ((regOf x i.a).tmod E.c.s) (loopFuel E s) s
   generalize mGet E x ((regOf x i.a).tmod E.c.s) (loopFuel E s) s = t at *
   split
   ·exact ⟨⟨g1.pos, g1.mono, (hN.sn g1.sn).more (Nat.le_succ _), g2.more (by omega), by rw [g1.rank]; exact hr0, by rw [g1.rank]; exact hr1, g1.fails, g1.sn.len, g3.1, g4, hV.of g3.2.2.2.1⟩, g3.2.1, g3.2.2.1⟩
   ·obtain ⟨k, p1, p2⟩ := mWrote_ok E hE t.2.1 t.2.2 i (regOf x i.a) false hr.1 hr.2 g1.pos (hN.sn g1.sn) g2 (hV.of g3.2.2.2.1) (by rw [g1.rank]; exact hr0) (by rw [g1.rank]; exact hr1)
    exact ⟨⟨k.pos, Nat.le_trans g1.mono k.mono, k.notes, k.ts, k.r0, k.r1, k.fails.trans g1.fails, k.len.trans g1.sn.len, k.code.trans g3.1, k.ends.trans g4, k.wv⟩, p1.trans g3.2.1, p2.trans g3.2.2.1⟩
theorem tmodB16 (a : Int) : -70000 ≤ a.tmod 65536 ∧ a.tmod 65536 ≤ 1125899906842624 := by
 have h3 := Int.tmod_lt_of_pos a (show (0 : Int) < 65536 by omega)
 have h4 := Int.lt_tmod_of_pos a (show (0 : Int) < 65536 by omega)
 omega
theorem TsOk.at {n : Nat} {x : TS} (h : TsOk n x) (b q : Nat) : TsOk n { x with begun := b, place := q } := ⟨h.rd, h.wr, h.hd, h.rg, h.rl, h.wl, h.hl, h.way0, h.way1, h.four⟩
theorem mStep_ok (E : Env) (hE : EnvOk E) {m n : Nat} (s : LS) (x : TS) (hp : s.pos ≤ E.seen.length) (hN : NotesOk m s) (hX : TsOk n x) (hV : WvOk x) (hr0 : 0 ≤ s.rank) (hr1 : s.rank ≤ 1125899906842625) (hpl : x.place ≤ x.code.length) (hbg : (x.begun : Int) ≤ E.c.f) :
  StOk E (m + 1) (n + 2) s x (mStep E s x).2.1 (mStep E s x).2.2 ∧ (mStep E s x).2.2.place ≤ x.code.length ∧ ((mStep E s x).1 = 0 → (mStep E s x).2.2.begun = x.begun + 1 ∧ (x.begun : Int) + 1 ≤ E.c.f) := by
 have base : ∀ y : TS, TsOk n y → WvOk y → y.code = x.code → StOk E (m + 1) (n + 2) s x s y := fun y hy hv hc => ⟨hp, Nat.le_refl _, hN.more (Nat.le_succ _), hy.more (by omega), hr0, hr1, rfl, rfl, hc, rfl, hv⟩
 rw [mStep_eq]
 split
 ·exact ⟨base x hX hV rfl, hpl, by simp⟩
 ·split
  ·exact ⟨base x hX hV rfl, hpl, by simp⟩
  ·rename_i hne hfu
   have hb1 : (x.begun : Int) + 1 ≤ E.c.f := by omega
   have hpl1 : x.place + 1 ≤ x.code.length := by omega
   split
   ·exact ⟨base _ (hX.at (x.begun + 1) x.place) hV rfl, hpl, by simp⟩
   ·rename_i hfm
    have hX2 := hX.at (x.begun + 1) (x.place + 1)
    have hV2 : WvOk { x with begun := x.begun + 1, place := x.place + 1 } := hV
    have hfm' : formedB (insAt x.code x.place) x.code.length = true := by simpa using hfm
    generalize insAt x.code x.place = i at *
    unfold mDo
    split
    ·exact ⟨base _ hX2 hV2 rfl, hpl1, by simp⟩
    ·split
     ·exact ⟨base _ hX2 hV2 rfl, hpl1, by simp⟩
     ·rename_i h0 h1
      split
      ·rename_i h2
       have hb : inB i.b 0 65535 = true := by
        unfold formedB at hfm'
        rw [if_neg (by omega), if_pos h2] at hfm'
        simp at hfm'
        exact hfm'.2
       have := inB_true hb
       exact ⟨base _ (hX2.setReg i.a i.b (by omega) (by omega)) hV2 rfl, hpl1, fun _ => ⟨rfl, hb1⟩⟩
      ·split
       ·have := tmodB16 (regOf { x with begun := x.begun + 1, place := x.place + 1 } i.b + regOf { x with begun := x.begun + 1, place := x.place + 1 } i.c)
        exact ⟨base _ (hX2.setReg i.a _ this.1 this.2) hV2 rfl, hpl1, fun _ => ⟨rfl, hb1⟩⟩
       ·split
        ·have := tmodB16 (regOf { x with begun := x.begun + 1, place := x.place + 1 } i.b + 65535 + 1 - regOf { x with begun := x.begun + 1, place := x.place + 1 } i.c)
         exact ⟨base _ (hX2.setReg i.a _ this.1 this.2) hV2 rfl, hpl1, fun _ => ⟨rfl, hb1⟩⟩
        ·rename_i h2 h3 h4
         split
         ·rename_i h5
          have hc : inB i.c 0 x.code.length = true := by
           unfold formedB at hfm'
           rw [if_neg (by omega), if_neg h2, if_neg (by omega), if_pos h5] at hfm'
           exact hfm'
          have := inB_true hc
          exact ⟨base _ (hX.at (x.begun + 1) i.c.toNat) hV2 rfl, by show i.c.toNat ≤ _; omega, fun _ => ⟨rfl, hb1⟩⟩
         ·rename_i h5
          split
          ·rename_i h6
           have hc : inB i.c 0 x.code.length = true := by
            unfold formedB at hfm'
            rw [if_neg (by omega), if_neg h2, if_neg (by omega), if_neg h5, if_pos h6] at hfm'
            simp at hfm'
            exact hfm'.2
           have := inB_true hc
           dsimp only
           split
           ·exact ⟨base _ (hX.at (x.begun + 1) i.c.toNat) hV2 rfl, by show i.c.toNat ≤ _; omega, fun _ => ⟨rfl, hb1⟩⟩
           ·exact ⟨base _ hX2 hV2 rfl, hpl1, fun _ => ⟨rfl, hb1⟩⟩
          ·split
           ·obtain ⟨k, p1, p2⟩ := mRead_ok E hE s _ i hp hN hX2 hV2 hr0 hr1
            exact ⟨⟨k.pos, k.mono, k.notes, k.ts.more (by omega), k.r0, k.r1, k.fails, k.len, k.code, k.ends, k.wv⟩, by rw [p1]; exact hpl1, fun _ => ⟨p2, hb1⟩⟩
           ·obtain ⟨k, p1, p2⟩ := mWrite_ok E hE s _ i hp hN hX2 hV2 hr0 hr1
            exact ⟨⟨k.pos, k.mono, k.notes, k.ts, k.r0, k.r1, k.fails, k.len, k.code, k.ends, k.wv⟩, by rw [p1]; exact hpl1, fun _ => ⟨p2, hb1⟩⟩
end Go.Proofs.YtejadojilncbjaaGreat
