import Derived.Test.YtejadojilncbjaaGreatH12
namespace Go.Proofs.YtejadojilncbjaaGreat
open Go.RowKit
set_option linter.unusedVariables false
attribute [local go_sem ↓] Go.wp_at_zero Go.wp_at_succ

theorem LifeR.nums {E : Env} {H : Hd} {B p eb : Nat} {w : World} {s : LS} (h : LifeR E H B p eb w s) : w.cell? ⟨p, 19, none⟩ = some (.int .i64 s.rank) ∧ w.cell? ⟨p, 20, none⟩ = some (.int .i64 s.fails) ∧ w.cell? ⟨p, 14, none⟩ = some (.bool s.over) := by
  obtain ⟨la, lc, hb, _⟩ := h.life
  exact ⟨by rw [hb.cell]; rfl, by rw [hb.cell]; rfl, by rw [hb.cell]; rfl⟩

theorem tdiv8b (v : Int) (h1 : -1 ≤ v) (h2 : v ≤ 1125899906842624) : wrap64 (v.tdiv 8) = v.tdiv 8 := by
  have : 0 ≤ v.tdiv 8 ∧ v.tdiv 8 ≤ 1125899906842624 := by
    by_cases h : 0 ≤ v
    · rw [Int.tdiv_eq_ediv_of_nonneg h]; omega
    · have : v = -1 := by omega
      subst this
      decide
  unfold wrap64
  omega

set_option maxRecDepth 100000 in
set_option maxHeartbeats 2000000 in
theorem wait_any (E : Env) (hE : EnvOk E) (H : Hd) (B p eb : Nat) (s : LS) (win : Int) (w : World) (hL : LifeR E H B p eb w s) (hpos : s.pos ≤ E.seen.length) (hw1 : -8 ≤ win) (hw2 : win ≤ 1125899906842624) :
    Calls Tryz.prog 101 #[.pointer (some ⟨p, 0, none⟩), .int .i64 win] w fun e w' =>
      e = .returned (.tuple #[]) ∧ LifeR E H B p eb w' (mWait E win (loopFuel E s) s) ∧ Kp [88] B p eb w w' := by
  have HE : Hid (EnvOk E) := hE
  have HL : Hid (LifeR E H B p eb w s) := hL
  obtain ⟨_, _, ⟨hs1, hs2⟩, _⟩ := cfgB_true hE.cfg
  clear hE hL
  obtain ⟨R, HR⟩ : ∃ R, Hid (mWait E win (loopFuel E s) s = R) := ⟨_, rfl⟩
  rw [show mWait E win (loopFuel E s) s = R from HR.out]
  go_enter Tryz.func101, Tryz.ntmps101
  go_wp2
  go_loopg [4] (loopFuel E s) (fun n t wr => ∃ sk : LS, Hid (mWait E win n sk = R) ∧ Hid (enough E sk n) ∧ Hid (LifeR E H B p eb wr sk) ∧ Hid (Kp [88] B p eb w wr) ∧ sk.pos ≤ E.seen.length)
  case atStart => exact ⟨s, HR, enough_fuel E s, HL, Kp.refl _ _ _ _ _, hpos⟩
  case round =>
    obtain ⟨sk, HM, HEn, HL1, HK1, hpk⟩ := hrel
    obtain ⟨n, rfl⟩ : ∃ n, gk = n + 1 := ⟨gk - 1, by have := HEn.out.1; omega⟩
    have hov := (HL1.out).over
    cases hso : sk.over with
    | true =>
      have HF : Hid (R = sk) := by show _ = _; rw [← HM.out, mWait]; simp [hso]
      go_wp2
      go_end0
      exact ⟨rfl, by rw [HF.out]; exact HL1.out, HK1.out⟩
    | false =>
      have hhd := (HL1.out).head
      go_wp2_with fail
      refine (statusV _ _ _ _ _ _ _ _ _ _ _ _ _ _ _ hs1 hs2 (by omega) (by omega)).mono ?_
      rintro e w1 ⟨rfl, hb1⟩
      clear hhd hov
      have hLa := (HL1.out).below hb1
      have HKa : Hid (Kp [] B p eb wr w1) := Kp.below hb1 (HL1.out).stat.size
      clear hb1
      go_wp2_with fail
      refine (loadL E HE.out H B p eb sk _ _ hLa hpk).mono ?_
      rintro e w2 ⟨rfl, hLb, hKb⟩
      have HKb : Hid (Kp [88] B p eb w w2) := ((HK1.out).trans (HKa.out).up).trans hKb
      have hp1 : (mLoad E sk (3 + 2 * E.c.s + win)).2.pos ≤ E.seen.length := (mAsk_pos E sk _ hpk).2
      have HA1 : Hid ((mLoad E sk (3 + 2 * E.c.s + win)).2.over = true ∨ ((mLoad E sk (3 + 2 * E.c.s + win)).2.over = false ∧ (mLoad E sk (3 + 2 * E.c.s + win)).2.pos = sk.pos + 1)) := mAsk_adv E sk _ hso hpk
      have hval : -1 ≤ (mLoad E sk (3 + 2 * E.c.s + win)).1 ∧ (mLoad E sk (3 + 2 * E.c.s + win)).1 ≤ 1125899906842624 := mAsk_val E HE.out sk _
      have HU : Hid (R = (if (mLoad E sk (3 + 2 * E.c.s + win)).1.tdiv 8 = 0 ∨ (0 < (mLoad E sk (3 + 2 * E.c.s + win)).2.rank ∧ (mLoad E sk (3 + 2 * E.c.s + win)).2.rank < (mLoad E sk (3 + 2 * E.c.s + win)).1.tdiv 8) then (mLoad E sk (3 + 2 * E.c.s + win)).2 else mWait E win n (mLoad E sk (3 + 2 * E.c.s + win)).2)) := by
        show _ = _
        rw [← HM.out, mWait]
        simp only [hso]
        rfl
      clear hLa hKb HKa
      generalize hq : mLoad E sk (3 + 2 * E.c.s + win) = q at *
      obtain ⟨v, s1⟩ := q
      clear hq
      have HLb : Hid (LifeR E H B p eb w2 s1) := hLb
      have hnm := hLb.nums
      obtain ⟨hrk, _, _⟩ := hnm
      have hwq : wrap64 (v.tdiv 8) = v.tdiv 8 := tdiv8b v hval.1 hval.2
      have HSO : Hid (sk.over = false) := hso
      clear hLb hval hso
      simp only at hp1 hrk
      have HF2 : Hid (∀ h : ¬ (v.tdiv 8 = 0 ∨ (0 < s1.rank ∧ s1.rank < v.tdiv 8)), mWait E win n s1 = R) := fun h => (HU.out.trans (if_neg h)).symm
      have HF1 : Hid (∀ h : (v.tdiv 8 = 0 ∨ (0 < s1.rank ∧ s1.rank < v.tdiv 8)), R = s1) := fun h => HU.out.trans (if_pos h)
      have HEn2 : Hid (enough E s1 n) := enough_next HEn.out HSO.out ((HA1.out).imp id (fun h => by have : s1.pos = sk.pos + 1 := h.2; omega)) hp1
      clear HU
      by_cases h0 : v.tdiv 8 = 0
      · have hb0 : (v.tdiv 8 == 0) = true := by simp [h0]
        have HF : Hid (R = s1) := HF1.out (Or.inl h0)
        clear h0
        go_wp2
        exact bodyPost_ret (v := .tuple #[]) (by simp [results, Tryz.results101, go_sem]) rfl ⟨rfl, by rw [HF.out]; exact HLb.out, HKb.out⟩
      · have hb0 : (v.tdiv 8 == 0) = false := by simpa using h0
        by_cases hr0 : 0 < s1.rank
        · by_cases hr1 : s1.rank < v.tdiv 8
          · have HF : Hid (R = s1) := HF1.out (Or.inr ⟨hr0, hr1⟩)
            clear h0
            go_wp2
            exact bodyPost_ret (v := .tuple #[]) (by simp [results, Tryz.results101, go_sem]) rfl ⟨rfl, by rw [HF.out]; exact HLb.out, HKb.out⟩
          · have HF : Hid (mWait E win n s1 = R) := HF2.out (fun h => h.elim h0 (fun h => hr1 h.2))
            clear h0
            go_wp2
            go_roundg n
            case rel => exact ⟨s1, HF, HEn2, HLb, HKb, hp1⟩
            case measure => omega
        · have HF : Hid (mWait E win n s1 = R) := HF2.out (fun h => h.elim h0 (fun h => hr0 h.1))
          clear h0
          go_wp2
          go_roundg n
          case rel => exact ⟨s1, HF, HEn2, HLb, HKb, hp1⟩
          case measure => omega

theorem mNones_pos (E : Env) : ∀ (n : Nat) (s : LS), s.pos ≤ E.seen.length → (mNones E n s).pos ≤ E.seen.length
  | 0, s, h => h
  | n + 1, s, h => mNones_pos E n _ (mAsk_pos E s _ h).2

theorem mNones_succ (E : Env) : ∀ (n : Nat) (s : LS), mNones E (n + 1) s = (mAsk E (mNones E n s) ⟨0, 0, 0, 0⟩).2
  | 0, s => rfl
  | n + 1, s => by
    show mNones E (n + 1) (mAsk E s ⟨0, 0, 0, 0⟩).2 = _
    rw [mNones_succ E n (mAsk E s ⟨0, 0, 0, 0⟩).2]
    rfl

set_option maxRecDepth 100000 in
set_option maxHeartbeats 2000000 in
theorem rest_any (E : Env) (hE : EnvOk E) (H : Hd) (B p eb : Nat) (s : LS) (draw : Int) (w : World) (hL : LifeR E H B p eb w s) (hpos : s.pos ≤ E.seen.length) (hf0 : 0 ≤ s.fails) :
    Calls Tryz.prog 102 #[.pointer (some ⟨p, 0, none⟩), .int .i64 draw] w fun e w' =>
      e = .returned (.tuple #[]) ∧ LifeR E H B p eb w' (mRest E draw s) ∧ Kp [88] B p eb w w' := by
  have HE : Hid (EnvOk E) := hE
  have HL : Hid (LifeR E H B p eb w s) := hL
  obtain ⟨_, _, _, _, _, ⟨hcp1, hcp2⟩, _⟩ := cfgB_true hE.cfg
  have hhd := hL.head
  obtain ⟨_, hfl, _⟩ := hL.nums
  clear hE hL
  obtain ⟨n, hn⟩ : ∃ n : Int, n = (if s.fails < E.c.cp then s.fails else E.c.cp) := ⟨_, rfl⟩
  have hn0 : 0 ≤ n := by rw [hn]; split <;> omega
  have hn8 : n ≤ 8 := by rw [hn]; split <;> omega
  by_cases hd : 0 < draw
  · obtain ⟨m, hm⟩ : ∃ m : Nat, (m : Int) = draw.tmod (n + 1) := ⟨(draw.tmod (n + 1)).toNat, by
      rw [Int.tmod_eq_emod_of_nonneg (by omega)]
      exact Int.toNat_of_nonneg (Int.emod_nonneg _ (by omega))⟩
    have hm8 : m ≤ 8 := by
      have : draw.tmod (n + 1) < n + 1 := by rw [Int.tmod_eq_emod_of_nonneg (by omega)]; exact Int.emod_lt_of_pos _ (by omega)
      omega
    have HF : Hid (mRest E draw s = mNones E m s) := by
      show _ = _
      unfold mRest
      rw [← hn]
      simp only [hd, if_true]
      rw [← hm]
      rfl
    have hmm : draw % (n + 1) = (m : Int) := by rw [hm, Int.tmod_eq_emod_of_nonneg (by omega)]
    have HM0 : Hid ((m : Int) = draw.tmod (n + 1)) := hm
    have hm8' : (m : Int) ≤ 8 := by omega
    clear hm
    rcases (show (s.fails < E.c.cp ∧ n = s.fails) ∨ (¬ s.fails < E.c.cp ∧ n = E.c.cp) from by
      by_cases h : s.fails < E.c.cp
      · exact Or.inl ⟨h, hn.trans (if_pos h)⟩
      · exact Or.inr ⟨h, hn.trans (if_neg h)⟩) with ⟨hcf, hnn⟩ | ⟨hcf, hnn⟩
    all_goals
      clear hn
      subst hnn
      go_enter Tryz.func102, Tryz.ntmps102
      go_wp2
      go_loopw [5] (fun i wr => ∃ k : Nat, k ≤ m ∧ i = .int .i64 k ∧ Hid (LifeR E H B p eb wr (mNones E k s)) ∧ Hid (Kp [88] B p eb w wr)) (fun i wr => m - (intOf i).toNat)
      case atStart => exact ⟨0, Nat.zero_le _, rfl, HL, Kp.refl _ _ _ _ _⟩
      case round =>
        obtain ⟨k, hk, rfl, HL1, HK1⟩ := hrel
        by_cases hlt : k < m
        · have hlt' : (k : Int) < (m : Int) := by omega
          have hpk := mNones_pos E k s hpos
          go_wp2_with fail
          refine (askL E HE.out H B p eb _ _ _ _ _ _ HL1.out hpk).mono ?_
          rintro e w1 ⟨rfl, hLa, hKa⟩
          have HLa : Hid (LifeR E H B p eb w1 (mNones E (k + 1) s)) := by
            show LifeR E H B p eb w1 (mNones E (k + 1) s)
            rw [mNones_succ]; exact hLa
          have HKa : Hid (Kp [88] B p eb w w1) := (HK1.out).trans hKa
          clear hLa hKa hpk
          go_wp2
          go_roundw
          case rel => exact ⟨k + 1, by omega, by go_num, HLa, HKa⟩
          case measure => simp [intOf]; omega
        · have hke : k = m := by omega
          subst hke
          have hlt' : ¬ (k : Int) < (k : Int) := by omega
          go_wp2
          go_end0
          exact ⟨rfl, by rw [HF.out]; exact HL1.out, HK1.out⟩
  · have HF : Hid (mRest E draw s = s) := by
      show _ = _
      unfold mRest
      simp [hd]
    clear hn
    by_cases hcf : s.fails < E.c.cp
    all_goals
      go_enter Tryz.func102, Tryz.ntmps102
      go_wp2
      go_end0
      exact ⟨rfl, by rw [HF.out]; exact HL.out, Kp.refl _ _ _ _ _⟩

end Go.Proofs.YtejadojilncbjaaGreat

namespace Go.Proofs.YtejadojilncbjaaGreat
open Go.RowKit
set_option linter.unusedVariables false
attribute [local go_sem ↓] Go.wp_at_zero Go.wp_at_succ

theorem wrapF (n : Int) (h1 : -1152921504606846976 ≤ n) (h2 : n ≤ 1152921504606846976) : IntKind.i64.wrap n = n := by rw [IntKind.wrap_i64]; omega

/-- A number of a life is stored. -/
theorem LifeR.set {E : Env} {H : Hd} {B p eb i : Nat} {w : World} {s s' : LS} {v : Value} (hL : LifeR E H B p eb w s) (h1 : s'.list = s.list) (h2 : s'.ends = s.ends) (ha : ∀ la lc, (lifeArr E H la lc s).setIfInBounds i v = lifeArr E H la lc s') :
    LifeR E H B p eb (w.setCell ⟨p, i, none⟩ v) s' ∧ Kp [88] B p eb w (w.setCell ⟨p, i, none⟩ v) := by
  obtain ⟨la, lc, hb, hl⟩ := hL.life
  have hk : Kp [88] B p eb w (w.setCell ⟨p, i, none⟩ v) := Kp.only (Only.refl _ _).set hL.stat.size hb (by simp) (Or.inl rfl)
  refine ⟨⟨hL.stat.keep hk, ⟨la, lc, hb.set.congr (ha la lc), by rw [h1]; exact hl.keep hk (by simp) (by simp)⟩, ?_, hL.pB, hL.eB, hL.pe⟩, hk⟩
  rw [h2]
  exact hL.ends.imp id (fun ⟨a, b⟩ => ⟨a, b.keep hk (by simp)⟩)

theorem LifeR.fz {E : Env} {H : Hd} {B p eb : Nat} {w : World} {s : LS} (h : LifeR E H B p eb w s) : ∀ i, w.frozen? ⟨p, i, none⟩ = false := by
  obtain ⟨la, lc, hb, _⟩ := h.life
  exact hb.frozen

/-- From the end of an attempt on: who is waited for. -/
def mAfter (E : Env) (win : Int) (s : LS) : Int × LS :=
  let s6 := if 0 ≤ win then mWait E win (loopFuel E s) s else mRest E (E.draws.getD (s.pos - 1) 0) s
  if s6.over then (-1, s6) else (5, s6)

/-- From the ticket on. -/
def mFailed (E : Env) (s4 : LS) (way : Int) : Int × LS :=
  let q := mStore E s4 (cStatus E E.me) (8 * s4.rank)
  if q.2.over then (-1, q.2) else mAfter E (if 0 < q.1.tmod 8 then q.1.tmod 8 - 1 else way) (mEnded E q.2 5)

theorem mFail_eq (E : Env) (s : LS) (x : TS) : mFail E s x = (if (mFree E x (if x.inGate then (mStore E s 2 0).2 else s)).over then (-1, mFree E x (if x.inGate then (mStore E s 2 0).2 else s)) else
    mFailed E (if (mFree E x (if x.inGate then (mStore E s 2 0).2 else s)).rank = 0 ∧ E.c.r < (mFree E x (if x.inGate then (mStore E s 2 0).2 else s)).fails + 1 then
      { (mAsk E { mFree E x (if x.inGate then (mStore E s 2 0).2 else s) with fails := (mFree E x (if x.inGate then (mStore E s 2 0).2 else s)).fails + 1 } ⟨4, 1, 0, 0⟩).2 with rank := (mAsk E { mFree E x (if x.inGate then (mStore E s 2 0).2 else s) with fails := (mFree E x (if x.inGate then (mStore E s 2 0).2 else s)).fails + 1 } ⟨4, 1, 0, 0⟩).1 + 1 }
      else { mFree E x (if x.inGate then (mStore E s 2 0).2 else s) with fails := (mFree E x (if x.inGate then (mStore E s 2 0).2 else s)).fails + 1 }) x.way) := rfl

theorem mFree_pos (E : Env) (x : TS) (s : LS) (h : s.pos ≤ E.seen.length) : s.pos ≤ (mFree E x s).pos ∧ (mFree E x s).pos ≤ E.seen.length := foldl_pos E _ (freeStep_pos E) x.held s h
theorem mFree_fields (E : Env) (x : TS) (s : LS) : (mFree E x s).list = s.list ∧ (mFree E x s).rank = s.rank ∧ (mFree E x s).fails = s.fails := by
  unfold mFree
  generalize x.held = l
  induction l generalizing s with
  | nil => exact ⟨rfl, rfl, rfl⟩
  | cons a l ih =>
    obtain ⟨h1, h2, h3⟩ := ih (mStore E s (cOwner E a) 0).2
    exact ⟨h1.trans (mAsk_list E s _), h2.trans (mAsk_rank E s _), h3.trans (mAsk_fails E s _)⟩

set_option maxRecDepth 100000 in
set_option maxHeartbeats 8000000 in
theorem fail_any (E : Env) (hE : EnvOk E) (H : Hd) (B p eb xb : Nat) (s : LS) (x : TS) (w : World) (hL : LifeR E H B p eb w s) (hT : TryR B p eb xb w x) (hpos : s.pos ≤ E.seen.length) (hp0 : 0 < s.pos) (hne : s.list ≠ []) (hlen : s.list.length ≤ 2 ^ 42)
    (hm2 : x.held.length ≤ 2 ^ 40) (hhd8 : ∀ h ∈ x.held, -8 ≤ h ∧ h ≤ 8) (hf0 : 0 ≤ s.fails) (hf1 : s.fails ≤ 2 ^ 46) (hr0 : 0 ≤ s.rank) (hr1 : s.rank ≤ 1125899906842625) (hw0 : -2 ≤ x.way) (hw1 : x.way ≤ 1125899906842624) :
    Calls Tryz.prog 86 #[.pointer (some ⟨p, 0, none⟩), .pointer (some ⟨xb, 0, none⟩)] w fun e w' =>
      e = .returned (.int .i64 (mFail E s x).1) ∧ LifeR E H B p eb w' (mFail E s x).2 ∧ TryR B p eb xb w' x ∧ Kp [88, 63] B p eb w w' := by
  have HE : Hid (EnvOk E) := hE
  have HL : Hid (LifeR E H B p eb w s) := hL
  have HT : Hid (TryR B p eb xb w x) := hT
  have hme0 := hE.me0
  have hme3 := hE.me3
  have HHD : Hid (∀ h ∈ x.held, -8 ≤ h ∧ h ≤ 8) := hhd8
  have HNE : Hid (s.list ≠ []) := hne
  obtain ⟨_, _, _, _, ⟨hrt1, hrt2⟩, _, _⟩ := cfgB_true hE.cfg
  obtain ⟨_, _, _, _, _, _, _, _, hxc, hxf⟩ := hT.cells
  have hx11 : w.cell? ⟨xb, 11, none⟩ = some (.bool x.inGate) := by rw [hxc]; rfl
  clear hE hL hT hhd8 hne hxc hxf
  obtain ⟨R, HR⟩ : ∃ R, Hid (mFail E s x = R) := ⟨_, rfl⟩
  rw [show mFail E s x = R from HR.out]
  have HU : Hid (R = _) := (HR.out).symm.trans (mFail_eq E s x)
  go_enter Tryz.func86, Tryz.ntmps86
  cases hig : x.inGate
  focus
    rw [hig] at HU hx11
    simp only [Bool.false_eq_true, if_false] at HU
    obtain ⟨w1, hw1'⟩ : ∃ w1, w1 = w := ⟨_, rfl⟩
    obtain ⟨s1, hs1'⟩ : ∃ s1, s1 = s := ⟨_, rfl⟩
    have HL1 : Hid (LifeR E H B p eb w1 s1) := by rw [hw1', hs1']; exact HL
    have HT1 : Hid (TryR B p eb xb w1 x) := by rw [hw1']; exact HT
    have HK1 : Hid (Kp [88] B p eb w w1) := by rw [hw1']; exact Kp.refl _ _ _ _ _
    have HF1 : Hid (s1.pos ≤ E.seen.length ∧ s.pos ≤ s1.pos ∧ s1.list = s.list ∧ s1.rank = s.rank ∧ s1.fails = s.fails) := by rw [hs1']; exact ⟨hpos, Nat.le_refl _, rfl, rfl, rfl⟩
    rw [← hs1'] at HU
    go_wp2_with fail
    rw [← hw1']
    clear hw1' hs1'
  rotate_left
  focus
    rw [hig] at HU hx11
    simp only [if_true] at HU
    go_wp2_with fail
    refine (store_at E HE.out H B p eb xb _ _ _ _ _ HL.out HT.out hpos).mono ?_
    rintro e w1 ⟨rfl, hL1, hT1, hK1⟩
    have HF1 : Hid ((mStore E s 2 0).2.pos ≤ E.seen.length ∧ s.pos ≤ (mStore E s 2 0).2.pos ∧ (mStore E s 2 0).2.list = s.list ∧ (mStore E s 2 0).2.rank = s.rank ∧ (mStore E s 2 0).2.fails = s.fails) :=
      ⟨(mAsk_pos E s _ hpos).2, (mAsk_pos E s _ hpos).1, mAsk_list E s _, mAsk_rank E s _, mAsk_fails E s _⟩
    have HL1 : Hid (LifeR E H B p eb w1 (mStore E s 2 0).2) := hL1
    have HT1 : Hid (TryR B p eb xb w1 x) := hT1
    have HK1 : Hid (Kp [88] B p eb w w1) := hK1
    clear hL1 hT1 hK1
    generalize mStore E s 2 0 = q1 at *
    obtain ⟨v1, s1⟩ := q1
    go_wp2_with fail
  all_goals
    refine (free_any E HE.out H B p eb xb _ _ _ HL1.out HT1.out (HF1.out).1 (by omega) HHD.out).mono ?_
    rintro e w2 ⟨rfl, hL2, hT2, hK2⟩
    have HP2 : Hid ((mFree E x s1).pos ≤ E.seen.length ∧ s1.pos ≤ (mFree E x s1).pos) := ⟨(mFree_pos E x s1 (HF1.out).1).2, (mFree_pos E x s1 (HF1.out).1).1⟩
    have HF2 : Hid ((mFree E x s1).list = s1.list ∧ (mFree E x s1).rank = s1.rank ∧ (mFree E x s1).fails = s1.fails) := mFree_fields E x s1
    have HL2 : Hid (LifeR E H B p eb w2 (mFree E x s1)) := hL2
    have HT2 : Hid (TryR B p eb xb w2 x) := hT2
    have HK2 : Hid (Kp [88] B p eb w w2) := (HK1.out).trans hK2
    clear hL2 hT2 hK2 HL1 HT1 HK1 hx11
    generalize mFree E x s1 = s2 at *
    have HG2 : Hid (s2.pos ≤ E.seen.length ∧ 0 < s2.pos ∧ s2.list = s.list ∧ 0 ≤ s2.rank ∧ s2.rank ≤ 1125899906842625 ∧ 0 ≤ s2.fails ∧ s2.fails ≤ 2 ^ 46) := by
      obtain ⟨a1, a2, a3, a4, a5⟩ := HF1.out
      obtain ⟨b1, b2⟩ := HP2.out
      obtain ⟨c1, c2, c3⟩ := HF2.out
      have a2' : s.pos ≤ s1.pos := a2
      have a4' : s1.rank = s.rank := a4
      have a5' : s1.fails = s.fails := a5
      exact ⟨b1, by omega, c1.trans a3, by omega, by omega, by omega, by omega⟩
    clear HF1 HP2 HF2
    have hov := (HL2.out).over
    cases ho2 : s2.over
    rotate_left
    focus
      have HF : Hid (R = (-1, s2)) := (HU.out).trans (if_pos ho2)
      clear HU
      go_wp2
      go_ret
      exact ⟨by rw [HF.out]; rfl, by rw [HF.out]; exact HL2.out, HT2.out, (HK2.out).wide (by simp)⟩
    have HU2 : Hid (R = mFailed E (if s2.rank = 0 ∧ E.c.r < s2.fails + 1 then { (mAsk E { s2 with fails := s2.fails + 1 } ⟨4, 1, 0, 0⟩).2 with rank := (mAsk E { s2 with fails := s2.fails + 1 } ⟨4, 1, 0, 0⟩).1 + 1 } else { s2 with fails := s2.fails + 1 }) x.way) := (HU.out).trans (if_neg (by simp [ho2]))
    clear HU
    obtain ⟨hq1, hq2, hq3, hq4, hq5, hq6, hq7⟩ := HG2.out
    obtain ⟨hrk, hfl, _⟩ := (HL2.out).nums
    have hfz19 := (HL2.out).fz 19
    have hfz20 := (HL2.out).fz 20
    have hhd := (HL2.out).head
    have hwf : IntKind.i64.wrap (s2.fails + 1) = s2.fails + 1 := wrapF _ (by omega) (by omega)
    have HLi2 : Hid (s2.list = s.list) := hq3
    clear hq3
    have hLK := (HL2.out).set (s' := { s2 with fails := s2.fails + 1 }) (i := 20) (v := .int .i64 (s2.fails + 1)) rfl rfl (fun _ _ => rfl)
    have HL3 : Hid (LifeR E H B p eb (w2.setCell ⟨p, 20, none⟩ (.int .i64 (s2.fails + 1))) { s2 with fails := s2.fails + 1 }) := hLK.1
    have HT3 : Hid (TryR B p eb xb (w2.setCell ⟨p, 20, none⟩ (.int .i64 (s2.fails + 1))) x) := (HT2.out).keep hLK.2 (by simp) (by simp) (by simp)
    have HK3 : Hid (Kp [88] B p eb w (w2.setCell ⟨p, 20, none⟩ (.int .i64 (s2.fails + 1)))) := (HK2.out).trans hLK.2
    clear hLK
    have hhd4 := hhd 4 (by omega)
    clear hhd
    simp at hhd4
    have hcs : (s2.rank = 0 ∧ E.c.r < s2.fails + 1) ∨ (s2.rank = 0 ∧ ¬ E.c.r < s2.fails + 1) ∨ ¬ s2.rank = 0 := by
      by_cases h : s2.rank = 0
      · by_cases h2 : E.c.r < s2.fails + 1
        · exact Or.inl ⟨h, h2⟩
        · exact Or.inr (Or.inl ⟨h, h2⟩)
      · exact Or.inr (Or.inr h)
    go_wp2_with fail
    rcases hcs with ⟨hc1, hc2⟩ | ⟨hc1, hc2⟩ | hc1
    focus
      have hbr : (s2.rank == 0) = true := by simp [hc1]
      have HU3 : Hid (R = mFailed E { (mAsk E { s2 with fails := s2.fails + 1 } ⟨4, 1, 0, 0⟩).2 with rank := (mAsk E { s2 with fails := s2.fails + 1 } ⟨4, 1, 0, 0⟩).1 + 1 } x.way) := by
        show _ = _
        rw [HU2.out]
        rw [if_pos ⟨hc1, hc2⟩]
      clear HU2 hc1
      go_quiet (fail)
      go_wp2_with fail
      refine (ask_at E HE.out H B p eb xb _ _ _ _ _ _ _ ((HL3.out).drewN nq) ((HT3.out).drewN nq) hq1).mono ?_
      rintro e w3 ⟨rfl, hLa, hTa, hKa⟩
      have hpA : (mAsk E { s2 with fails := s2.fails + 1 } ⟨4, 1, 0, 0⟩).2.pos ≤ E.seen.length := (mAsk_pos E { s2 with fails := s2.fails + 1 } _ hq1).2
      have hpB : 0 < (mAsk E { s2 with fails := s2.fails + 1 } ⟨4, 1, 0, 0⟩).2.pos := Nat.lt_of_lt_of_le hq2 (mAsk_pos E { s2 with fails := s2.fails + 1 } _ hq1).1
      have HLiA : Hid ((mAsk E { s2 with fails := s2.fails + 1 } ⟨4, 1, 0, 0⟩).2.list = s.list) := (mAsk_list E { s2 with fails := s2.fails + 1 } _).trans HLi2.out
      have HFlA : Hid ((mAsk E { s2 with fails := s2.fails + 1 } ⟨4, 1, 0, 0⟩).2.fails = s2.fails + 1) := mAsk_fails E { s2 with fails := s2.fails + 1 } _
      have hvA : -1 ≤ (mAsk E { s2 with fails := s2.fails + 1 } ⟨4, 1, 0, 0⟩).1 ∧ (mAsk E { s2 with fails := s2.fails + 1 } ⟨4, 1, 0, 0⟩).1 ≤ 1125899906842624 := mAsk_val E HE.out _ _
      have HKa : Hid (Kp [88] B p eb w w3) := ((HK3.out).drewN nq).trans hKa
      generalize mAsk E { s2 with fails := s2.fails + 1 } ⟨4, 1, 0, 0⟩ = qa at *
      obtain ⟨va, sa⟩ := qa
      have hwa : IntKind.i64.wrap (va + 1) = va + 1 := wrapF _ (by have := hvA.1; simp only at this; omega) (by have := hvA.2; simp only at this; omega)
      have hLK := LifeR.set (s := sa) (s' := { sa with rank := va + 1 }) (i := 19) (v := .int .i64 (va + 1)) hLa rfl rfl (fun _ _ => rfl)
      have hrka := (LifeR.nums (s := sa) hLa).1
      have hfza := (LifeR.fz hLa) 19
      have hTn := hTa.keep hLK.2 (by simp) (by simp) (by simp)
      have hKn := (HKa.out).trans hLK.2
      obtain ⟨hvA1, hvA2⟩ := hvA
      simp only at hvA1 hvA2 hpA hpB
      go_wp2_with fail
      obtain ⟨w4, hw4⟩ : ∃ w4, w4 = w3.setCell ⟨p, 19, none⟩ (.int .i64 (va + 1)) := ⟨_, rfl⟩
      obtain ⟨s4, hs4⟩ : ∃ s4 : LS, s4 = { sa with rank := va + 1 } := ⟨_, rfl⟩
      have HL4 : Hid (LifeR E H B p eb w4 s4) := by rw [hw4, hs4]; exact hLK.1
      have HT4 : Hid (TryR B p eb xb w4 x) := by rw [hw4]; exact hTn
      have HK4 : Hid (Kp [88] B p eb w w4) := by rw [hw4]; exact hKn
      have HU4 : Hid (R = mFailed E s4 x.way) := by rw [hs4]; exact HU3
      have HG4 : Hid (s4.pos ≤ E.seen.length ∧ 0 < s4.pos ∧ s4.list = s.list ∧ -1 ≤ s4.rank ∧ s4.rank ≤ 1125899906842625 ∧ 0 ≤ s4.fails) := by
        rw [hs4]
        have : sa.fails = s2.fails + 1 := HFlA.out
        exact ⟨hpA, hpB, HLiA.out, by show -1 ≤ va + 1; omega, by show va + 1 ≤ _; omega, by show 0 ≤ sa.fails; omega⟩
      rw [← hw4]
      clear hw4 hs4 hLK hLa hTa hKa hTn hKn HKa HU3 HLiA HFlA hrka hfza hpA hpB hvA1 hvA2 hwa
    rotate_left
    focus
      have hbr : (s2.rank == 0) = true := by simp [hc1]
      have hd : decide (E.c.r < s2.fails + 1) = false := by simpa using hc2
      have HU3 : Hid (R = mFailed E { s2 with fails := s2.fails + 1 } x.way) := by
        show _ = _
        rw [HU2.out]
        rw [if_neg (fun h => absurd h.2 (by omega))]
      clear HU2 hc1
      go_quiet (fail)
      go_wp2_with fail
      obtain ⟨w4, hw4⟩ : ∃ w4, w4 = (w2.setCell ⟨p, 20, none⟩ (.int .i64 (s2.fails + 1))).drewN nq := ⟨_, rfl⟩
      obtain ⟨s4, hs4⟩ : ∃ s4 : LS, s4 = { s2 with fails := s2.fails + 1 } := ⟨_, rfl⟩
      have HL4 : Hid (LifeR E H B p eb w4 s4) := by rw [hw4, hs4]; exact (HL3.out).drewN nq
      have HT4 : Hid (TryR B p eb xb w4 x) := by rw [hw4]; exact (HT3.out).drewN nq
      have HK4 : Hid (Kp [88] B p eb w w4) := by rw [hw4]; exact (HK3.out).drewN nq
      have HU4 : Hid (R = mFailed E s4 x.way) := by rw [hs4]; exact HU3
      have HG4 : Hid (s4.pos ≤ E.seen.length ∧ 0 < s4.pos ∧ s4.list = s.list ∧ -1 ≤ s4.rank ∧ s4.rank ≤ 1125899906842625 ∧ 0 ≤ s4.fails) := by
        rw [hs4]
        exact ⟨hq1, hq2, HLi2.out, by show -1 ≤ s2.rank; omega, hq5, by show 0 ≤ s2.fails + 1; omega⟩
      rw [← hw4]
      clear hw4 hs4 HU3 hd hc2
    rotate_left
    focus
      have hbr : (s2.rank == 0) = false := by simpa using hc1
      have HU3 : Hid (R = mFailed E { s2 with fails := s2.fails + 1 } x.way) := by
        show _ = _
        rw [HU2.out]
        rw [if_neg (fun h => hc1 h.1)]
      clear HU2 hc1
      go_quiet (fail)
      go_wp2_with fail
      obtain ⟨w4, hw4⟩ : ∃ w4, w4 = (w2.setCell ⟨p, 20, none⟩ (.int .i64 (s2.fails + 1))).drewN nq := ⟨_, rfl⟩
      obtain ⟨s4, hs4⟩ : ∃ s4 : LS, s4 = { s2 with fails := s2.fails + 1 } := ⟨_, rfl⟩
      have HL4 : Hid (LifeR E H B p eb w4 s4) := by rw [hw4, hs4]; exact (HL3.out).drewN nq
      have HT4 : Hid (TryR B p eb xb w4 x) := by rw [hw4]; exact (HT3.out).drewN nq
      have HK4 : Hid (Kp [88] B p eb w w4) := by rw [hw4]; exact (HK3.out).drewN nq
      have HU4 : Hid (R = mFailed E s4 x.way) := by rw [hs4]; exact HU3
      have HG4 : Hid (s4.pos ≤ E.seen.length ∧ 0 < s4.pos ∧ s4.list = s.list ∧ -1 ≤ s4.rank ∧ s4.rank ≤ 1125899906842625 ∧ 0 ≤ s4.fails) := by
        rw [hs4]
        exact ⟨hq1, hq2, HLi2.out, by show -1 ≤ s2.rank; omega, hq5, by show 0 ≤ s2.fails + 1; omega⟩
      rw [← hw4]
      clear hw4 hs4 HU3
    all_goals
      clear hrk hfl hfz19 hfz20 hhd4 hwf HL3 HT3 HK3 HL2 HT2 HK2 hq1 hq2 hq4 hq5 hq6 hq7 HG2 hov hbr HLi2
      obtain ⟨hg1, hg2, hg3, hg4, hg5, hg6⟩ := HG4.out
      have HLi4 : Hid (s4.list = s.list) := hg3
      have hw8 : IntKind.i64.wrap (8 * s4.rank) = 8 * s4.rank := wrapF _ (by omega) (by omega)
      clear hg3 HG4
      have HS0 : Hid (HeadAt E H p w4.drew ∧ w4.drew.cell? ⟨p, 19, none⟩ = some (.int .i64 s4.rank)) := ⟨(HL4.out).drew.head, (HL4.out).drew.nums.1⟩
      go_region_held3 (fun w' => HeadAt E H p w' ∧ w'.cell? ⟨p, 19, none⟩ = some (.int .i64 s4.rank))
        (first | exact HS2.out | exact HS1.out | exact HS0.out)
        (first
          | (go_at_call 88; refine (status_at E HE.out H B p eb xb _ _ _ _ (HL4.out).drew (HT4.out).drew (by omega) (by omega)).mono ?_; rintro e w5 ⟨rfl, hL2, hT2, hK2⟩; have HL5 : Hid (LifeR E H B p eb w5 s4) := hL2; have HT5 : Hid (TryR B p eb xb w5 x) := hT2; have HK5 : Hid (Kp [] B p eb w4 w5) := (Kp.below (Below.refl _ _).drew (HL4.out).stat.size).trans hK2; clear hL2 hT2 hK2;
             have HS1 : Hid (HeadAt E H p w5 ∧ w5.cell? ⟨p, 19, none⟩ = some (.int .i64 s4.rank)) := ⟨(HL5.out).head, (HL5.out).nums.1⟩)
          | (go_at_call 87; refine (store_at E HE.out H B p eb xb _ _ _ _ _ HL5.out HT5.out hg1).mono ?_; rintro e w6 ⟨rfl, hL3, hT3, hK3⟩; have HL6 : Hid (LifeR E H B p eb w6 (mStore E s4 (cStatus E E.me) (8 * s4.rank)).2) := hL3; have HT6 : Hid (TryR B p eb xb w6 x) := hT3; have HK6 : Hid (Kp [88] B p eb w w6) := (HK4.out).trans ((HK5.out).up.trans hK3); clear hL3 hT3 hK3;
             have HS2 : Hid (HeadAt E H p w6 ∧ w6.cell? ⟨p, 19, none⟩ = some (.int .i64 s4.rank)) := ⟨(HL6.out).head, by rw [(HL6.out).nums.1]; rw [show (mStore E s4 (cStatus E E.me) (8 * s4.rank)).2.rank = s4.rank from mAsk_rank E s4 _]⟩))
      clear HS0 HS1 HS2 HL5 HT5 HK5 HL4 HT4 HK4
      have hp6 : (mStore E s4 (cStatus E E.me) (8 * s4.rank)).2.pos ≤ E.seen.length := (mAsk_pos E s4 _ hg1).2
      have hp6' : 0 < (mStore E s4 (cStatus E E.me) (8 * s4.rank)).2.pos := Nat.lt_of_lt_of_le hg2 (mAsk_pos E s4 _ hg1).1
      have HLi6 : Hid ((mStore E s4 (cStatus E E.me) (8 * s4.rank)).2.list = s.list) := (mAsk_list E s4 _).trans HLi4.out
      have HFl6 : Hid (0 ≤ (mStore E s4 (cStatus E E.me) (8 * s4.rank)).2.fails) := by rw [show (mStore E s4 (cStatus E E.me) (8 * s4.rank)).2.fails = s4.fails from mAsk_fails E s4 _]; exact hg6
      have hval6 : -1 ≤ (mStore E s4 (cStatus E E.me) (8 * s4.rank)).1 ∧ (mStore E s4 (cStatus E E.me) (8 * s4.rank)).1 ≤ 1125899906842624 := mAsk_val E HE.out s4 _
      have HU5 : Hid (R = (if (mStore E s4 (cStatus E E.me) (8 * s4.rank)).2.over then (-1, (mStore E s4 (cStatus E E.me) (8 * s4.rank)).2) else mAfter E (if 0 < (mStore E s4 (cStatus E E.me) (8 * s4.rank)).1.tmod 8 then (mStore E s4 (cStatus E E.me) (8 * s4.rank)).1.tmod 8 - 1 else x.way) (mEnded E (mStore E s4 (cStatus E E.me) (8 * s4.rank)).2 5))) := HU4.out
      clear HU4
      generalize mStore E s4 (cStatus E E.me) (8 * s4.rank) = q6 at *
      obtain ⟨v6, s6⟩ := q6
      have HL6' : Hid (LifeR E H B p eb w6 s6) := HL6
      have hov6 := (HL6'.out).over
      clear HL6
      obtain ⟨hv6a, hv6b⟩ := hval6
      simp only at hp6 hp6' hv6a hv6b
      cases ho6 : s6.over
      rotate_left
      focus
        have HF : Hid (R = (-1, s6)) := (HU5.out).trans (if_pos ho6)
        clear HU5
        go_wp2
        go_ret
        exact ⟨by rw [HF.out]; rfl, by rw [HF.out]; exact HL6'.out, HT6.out, (HK6.out).wide (by simp)⟩
      have HU6 : Hid (R = mAfter E (if 0 < v6.tmod 8 then v6.tmod 8 - 1 else x.way) (mEnded E s6 5)) := (HU5.out).trans (if_neg (by simp [ho6]))
      clear HU5
      go_wp2_with fail
      refine (ended_any E HE.out H B p eb s6 5 _ HL6'.out (by rw [show s6.list = s.list from HLi6.out]; exact HNE.out) (by rw [show s6.list = s.list from HLi6.out]; exact hlen) hp6' hp6).mono ?_
      rintro e w7 ⟨rfl, hL7, hK7⟩
      have HL7 : Hid (LifeR E H B p eb w7 (mEnded E s6 5)) := hL7
      have HT7 : Hid (TryR B p eb xb w7 x) := (HT6.out).keep hK7 (by simp) (by simp) (by simp)
      have HK7 : Hid (Kp [88, 63] B p eb w w7) := ((HK6.out).wide (by simp)).trans (hK7.wide (by simp))
      have HP7 : Hid ((mEnded E s6 5).pos = s6.pos ∧ (mEnded E s6 5).fails = s6.fails) := ⟨rfl, rfl⟩
      obtain ⟨_, _, _, _, _, _, _, _, hxc, _⟩ := (HT7.out).cells
      have hx12 : w7.cell? ⟨xb, 12, none⟩ = some (.int .i64 x.way) := by rw [hxc]; rfl
      clear hL7 hK7 hxc HL6' HT6 HK6 hov6
      generalize hs7 : mEnded E s6 5 = s7 at *
      have hp7 : s7.pos ≤ E.seen.length := by rw [(HP7.out).1]; exact hp6
      have hp7' : 0 < s7.pos := by rw [(HP7.out).1]; exact hp6'
      have hfl7 : 0 ≤ s7.fails := by rw [(HP7.out).2]; exact HFl6.out
      clear hs7
      have hmod : v6.tmod 8 ≤ 8 ∧ -8 ≤ v6.tmod 8 := by
        by_cases h : 0 ≤ v6
        · rw [Int.tmod_eq_emod_of_nonneg h]; omega
        · have : v6 = -1 := by omega
          subst this
          decide
      obtain ⟨hmo1, hmo2⟩ := hmod
      clear hv6a hv6b hp6 hp6'
      obtain ⟨win, hwin⟩ : ∃ win, win = (if 0 < v6.tmod 8 then v6.tmod 8 - 1 else x.way) := ⟨_, rfl⟩
      rw [← hwin] at HU6
      have hwb : -8 ≤ win ∧ win ≤ 1125899906842624 := by rw [hwin]; split <;> omega
      obtain ⟨hwb1, hwb2⟩ := hwb
      have hww : win = v6.tmod 8 - 1 ∧ 0 < v6.tmod 8 ∨ win = x.way ∧ ¬ 0 < v6.tmod 8 := by
        by_cases h : 0 < v6.tmod 8
        · left; exact ⟨hwin.trans (if_pos h), h⟩
        · right; exact ⟨hwin.trans (if_neg h), h⟩
      clear hwin
      have HA : Hid (∀ h : 0 ≤ win, R = (if (mWait E win (loopFuel E s7) s7).over then (-1, mWait E win (loopFuel E s7) s7) else (5, mWait E win (loopFuel E s7) s7))) := fun h => by
        rw [HU6.out]
        unfold mAfter
        simp only [if_pos h]
      have HB : Hid (∀ h : ¬ 0 ≤ win, R = (if (mRest E (E.draws.getD (s7.pos - 1) 0) s7).over then (-1, mRest E (E.draws.getD (s7.pos - 1) 0) s7) else (5, mRest E (E.draws.getD (s7.pos - 1) 0) s7))) := fun h => by
        rw [HU6.out]
        unfold mAfter
        simp only [if_neg h]
      clear HU6
      by_cases hwin0 : 0 ≤ win
      · have HUw : Hid (R = _) := HA.out hwin0
        clear HA HB
        rcases hww with ⟨hwe, hw8'⟩ | ⟨hwe, hw8'⟩
        all_goals
          subst hwe
          go_wp2_with fail
          refine (wait_any E HE.out H B p eb s7 _ _ HL7.out hp7 hwb1 hwb2).mono ?_
          rintro e w8 ⟨rfl, hL8, hK8⟩
          generalize mWait E _ (loopFuel E s7) s7 = s8 at *
          have hov8 := hL8.over
          have HL8 : Hid (LifeR E H B p eb w8 s8) := hL8
          have HT8 : Hid (TryR B p eb xb w8 x) := (HT7.out).keep hK8 (by simp) (by simp) (by simp)
          have HK8 : Hid (Kp [88, 63] B p eb w w8) := (HK7.out).trans (hK8.wide (by simp))
          clear hL8 hK8
          cases ho8 : s8.over with
          | true =>
            have HF : Hid (R = (-1, s8)) := (HUw.out).trans (if_pos ho8)
            clear HUw
            go_wp2
            go_ret
            exact ⟨by rw [HF.out]; rfl, by rw [HF.out]; exact HL8.out, HT8.out, HK8.out⟩
          | false =>
            have HF : Hid (R = (5, s8)) := (HUw.out).trans (if_neg (by simp [ho8]))
            clear HUw
            go_wp2
            go_ret
            exact ⟨by rw [HF.out]; rfl, by rw [HF.out]; exact HL8.out, HT8.out, HK8.out⟩
      · have HUw : Hid (R = _) := HB.out hwin0
        clear HA HB
        have hw8' : ¬ 0 < v6.tmod 8 := by omega
        have hwe : win = x.way := by omega
        clear hww
        subst hwe
        obtain ⟨m, hm⟩ : ∃ m, s7.pos = m + 1 := ⟨s7.pos - 1, by omega⟩
        have hdl := (HE.out).dlen
        have hel := (HE.out).len
        obtain ⟨b, off, hda, hdb, hdc⟩ := (HL7.out).stat.draws m (by omega)
        obtain ⟨z, hz⟩ : ∃ z, z = E.draws.getD m 0 := ⟨_, rfl⟩
        rw [← hz] at hdc
        obtain ⟨la7, lc7, hb7, _⟩ := (HL7.out).life
        have hc11 : w7.cell? ⟨p, 11, none⟩ = some (.slice (some ⟨b, off, none⟩) E.draws.length H.dc) := by rw [hb7.cell]; simp [lifeArr, hda]
        have hc13 : w7.cell? ⟨p, 13, none⟩ = some (.int .i64 ((m : Int) + 1)) := by rw [hb7.cell]; simp [lifeArr, hm]
        have hm0 : (0 : Int) ≤ (m : Int) := Int.natCast_nonneg _
        have hm1 : (m : Int) < (E.draws.length : Int) := by omega
        have hm2' : (m : Int) ≤ 35184372088832 := by omega
        have hwm : IntKind.i64.wrap ((m : Int) + 1 - 1) = (m : Int) := by rw [show (m : Int) + 1 - 1 = (m : Int) from by omega]; exact wrapF _ (by omega) (by omega)
        have hwm2 : IntKind.i64.wrap (m : Int) = (m : Int) := wrapF _ (by omega) (by omega)
        have HUx : Hid (R = (if (mRest E z s7).over then (-1, mRest E z s7) else (5, mRest E z s7))) := by
          show _ = _
          rw [HUw.out, hm, Nat.add_sub_cancel, hz]
        clear HUw hz hb7 hm hdl hel hda
        go_wp2_with fail
        go_region_with ((go_at_call 102; refine (rest_any E HE.out H B p eb s7 z _ (HL7.out).drew hp7 hfl7).mono ?_; rintro e w8 ⟨rfl, hL8, hK8⟩))
        all_goals
          generalize mRest E z s7 = s8 at *
          have hov8 := hL8.over
          have HL8 : Hid (LifeR E H B p eb w8 s8) := hL8
          have HT8 : Hid (TryR B p eb xb w8 x) := (HT7.out).drew.keep hK8 (by simp) (by simp) (by simp)
          have HK8 : Hid (Kp [88, 63] B p eb w w8) := (HK7.out).drew.trans (hK8.wide (by simp))
          clear hL8 hK8
          cases ho8 : s8.over with
          | true =>
            have HF : Hid (R = (-1, s8)) := (HUx.out).trans (if_pos ho8)
            clear HUx
            go_wp2
            go_ret
            exact ⟨by rw [HF.out]; rfl, by rw [HF.out]; exact HL8.out, HT8.out, HK8.out⟩
          | false =>
            have HF : Hid (R = (5, s8)) := (HUx.out).trans (if_neg (by simp [ho8]))
            clear HUx
            go_wp2
            go_ret
            exact ⟨by rw [HF.out]; rfl, by rw [HF.out]; exact HL8.out, HT8.out, HK8.out⟩

end Go.Proofs.YtejadojilncbjaaGreat
