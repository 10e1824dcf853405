import Derived.Test.YtejadojilncbjaaStands
namespace Go.Proofs.Ytejadojilncbjaa
open Go.RowKit
set_option linter.unusedVariables false
attribute [local go_sem ↓] Go.wp_at_zero Go.wp_at_succ

theorem LifeR.nums {E : Env} {H : Hd} {B p eb : Nat} {w : World} {s : LS} (h : LifeR E H B p eb w s) : w.cell? ⟨p, 19, none⟩ = some (.int .i64 s.rank) ∧ w.cell? ⟨p, 20, none⟩ = some (.int .i64 s.fails) ∧ w.cell? ⟨p, 14, none⟩ = some (.bool s.over) := by
  obtain ⟨la, lc, hb, _⟩ := h.life
  exact ⟨by rw [hb.cell]; rfl, by rw [hb.cell]; rfl, by rw [hb.cell]; rfl⟩

theorem tdiv8b (v : Int) (h1 : -1 ≤ v) (h2 : v ≤ 1125899906842624) : wrap64 (v.tdiv 8) = v.tdiv 8 := by
  have : 0 ≤ v.tdiv 8 ∧ v.tdiv 8 ≤ 1125899906842624 := by
    by_cases h : 0 ≤ v
    · rw [Int.tdiv_eq_ediv_of_nonneg h]; omega
    · have : v = -1 := by omega
      subst this
      decide
  unfold wrap64
  omega

set_option maxRecDepth 100000 in
set_option maxHeartbeats 2000000 in
theorem wait_any (E : Env) (hE : EnvOk E) (H : Hd) (B p eb : Nat) (s : LS) (win : Int) (w : World) (hL : LifeR E H B p eb w s) (hpos : s.pos ≤ E.seen.length) (hw1 : -8 ≤ win) (hw2 : win ≤ 1125899906842624) :
    Calls Try.prog 82 #[.pointer (some ⟨p, 0, none⟩), .int .i64 win] w fun e w' =>
      e = .returned (.tuple #[]) ∧ LifeR E H B p eb w' (mWait E win (loopFuel E s) s) ∧ Kp [78] B p eb w w' := by
  have HE : Hid (EnvOk E) := hE
  have HL : Hid (LifeR E H B p eb w s) := hL
  obtain ⟨_, _, ⟨hs1, hs2⟩, _⟩ := cfgB_true hE.cfg
  clear hE hL
  obtain ⟨R, HR⟩ : ∃ R, Hid (mWait E win (loopFuel E s) s = R) := ⟨_, rfl⟩
  rw [show mWait E win (loopFuel E s) s = R from HR.out]
  go_enter Try.func82, Try.ntmps82
  go_wp2
  go_loopg [4] (loopFuel E s) (fun n t wr => ∃ sk : LS, Hid (mWait E win n sk = R) ∧ Hid (enough E sk n) ∧ Hid (LifeR E H B p eb wr sk) ∧ Hid (Kp [78] B p eb w wr) ∧ sk.pos ≤ E.seen.length)
  case atStart => exact ⟨s, HR, enough_fuel E s, HL, Kp.refl _ _ _ _ _, hpos⟩
  case round =>
    obtain ⟨sk, HM, HEn, HL1, HK1, hpk⟩ := hrel
    obtain ⟨n, rfl⟩ : ∃ n, gk = n + 1 := ⟨gk - 1, by have := HEn.out.1; omega⟩
    have hov := (HL1.out).over
    cases hso : sk.over with
    | true =>
      have HF : Hid (R = sk) := by show _ = _; rw [← HM.out, mWait]; simp [hso]
      go_wp2
      go_end0
      exact ⟨rfl, by rw [HF.out]; exact HL1.out, HK1.out⟩
    | false =>
      have hhd := (HL1.out).head
      go_wp2_with fail
      refine (statusV _ _ _ _ _ _ _ _ _ _ _ _ _ _ _ hs1 hs2 (by omega) (by omega)).mono ?_
      rintro e w1 ⟨rfl, hb1⟩
      clear hhd hov
      have hLa := (HL1.out).below hb1
      have HKa : Hid (Kp [] B p eb wr w1) := Kp.below hb1 (HL1.out).stat.size
      clear hb1
      go_wp2_with fail
      refine (loadL E HE.out H B p eb sk _ _ hLa hpk).mono ?_
      rintro e w2 ⟨rfl, hLb, hKb⟩
      have HKb : Hid (Kp [78] B p eb w w2) := ((HK1.out).trans (HKa.out).up).trans hKb
      have hp1 : (mLoad E sk (3 + 2 * E.c.s + win)).2.pos ≤ E.seen.length := (mAsk_pos E sk _ hpk).2
      have HA1 : Hid ((mLoad E sk (3 + 2 * E.c.s + win)).2.over = true ∨ ((mLoad E sk (3 + 2 * E.c.s + win)).2.over = false ∧ (mLoad E sk (3 + 2 * E.c.s + win)).2.pos = sk.pos + 1)) := mAsk_adv E sk _ hso hpk
      have hval : -1 ≤ (mLoad E sk (3 + 2 * E.c.s + win)).1 ∧ (mLoad E sk (3 + 2 * E.c.s + win)).1 ≤ 1125899906842624 := mAsk_val E HE.out sk _
      have HU : Hid (R = (if (mLoad E sk (3 + 2 * E.c.s + win)).1.tdiv 8 = 0 ∨ (0 < (mLoad E sk (3 + 2 * E.c.s + win)).2.rank ∧ (mLoad E sk (3 + 2 * E.c.s + win)).2.rank < (mLoad E sk (3 + 2 * E.c.s + win)).1.tdiv 8) then (mLoad E sk (3 + 2 * E.c.s + win)).2 else mWait E win n (mLoad E sk (3 + 2 * E.c.s + win)).2)) := by
        show _ = _
        rw [← HM.out, mWait]
        simp only [hso]
        rfl
      clear hLa hKb HKa
      generalize hq : mLoad E sk (3 + 2 * E.c.s + win) = q at *
      obtain ⟨v, s1⟩ := q
      clear hq
      have HLb : Hid (LifeR E H B p eb w2 s1) := hLb
      have hnm := hLb.nums
      obtain ⟨hrk, _, _⟩ := hnm
      have hwq : wrap64 (v.tdiv 8) = v.tdiv 8 := tdiv8b v hval.1 hval.2
      have HSO : Hid (sk.over = false) := hso
      clear hLb hval hso
      simp only at hp1 hrk
      have HF2 : Hid (∀ h : ¬ (v.tdiv 8 = 0 ∨ (0 < s1.rank ∧ s1.rank < v.tdiv 8)), mWait E win n s1 = R) := fun h => (HU.out.trans (if_neg h)).symm
      have HF1 : Hid (∀ h : (v.tdiv 8 = 0 ∨ (0 < s1.rank ∧ s1.rank < v.tdiv 8)), R = s1) := fun h => HU.out.trans (if_pos h)
      have HEn2 : Hid (enough E s1 n) := enough_next HEn.out HSO.out ((HA1.out).imp id (fun h => by have : s1.pos = sk.pos + 1 := h.2; omega)) hp1
      clear HU
      by_cases h0 : v.tdiv 8 = 0
      · have hb0 : (v.tdiv 8 == 0) = true := by simp [h0]
        have HF : Hid (R = s1) := HF1.out (Or.inl h0)
        clear h0
        go_wp2
        exact bodyPost_ret (v := .tuple #[]) (by simp [results, Try.results82, go_sem]) rfl ⟨rfl, by rw [HF.out]; exact HLb.out, HKb.out⟩
      · have hb0 : (v.tdiv 8 == 0) = false := by simpa using h0
        by_cases hr0 : 0 < s1.rank
        · by_cases hr1 : s1.rank < v.tdiv 8
          · have HF : Hid (R = s1) := HF1.out (Or.inr ⟨hr0, hr1⟩)
            clear h0
            go_wp2
            exact bodyPost_ret (v := .tuple #[]) (by simp [results, Try.results82, go_sem]) rfl ⟨rfl, by rw [HF.out]; exact HLb.out, HKb.out⟩
          · have HF : Hid (mWait E win n s1 = R) := HF2.out (fun h => h.elim h0 (fun h => hr1 h.2))
            clear h0
            go_wp2
            go_roundg n
            case rel => exact ⟨s1, HF, HEn2, HLb, HKb, hp1⟩
            case measure => omega
        · have HF : Hid (mWait E win n s1 = R) := HF2.out (fun h => h.elim h0 (fun h => hr0 h.1))
          clear h0
          go_wp2
          go_roundg n
          case rel => exact ⟨s1, HF, HEn2, HLb, HKb, hp1⟩
          case measure => omega

theorem mNones_pos (E : Env) : ∀ (n : Nat) (s : LS), s.pos ≤ E.seen.length → (mNones E n s).pos ≤ E.seen.length
  | 0, s, h => h
  | n + 1, s, h => mNones_pos E n _ (mAsk_pos E s _ h).2

theorem mNones_succ (E : Env) : ∀ (n : Nat) (s : LS), mNones E (n + 1) s = (mAsk E (mNones E n s) ⟨0, 0, 0, 0⟩).2
  | 0, s => rfl
  | n + 1, s => by
    show mNones E (n + 1) (mAsk E s ⟨0, 0, 0, 0⟩).2 = _
    rw [mNones_succ E n (mAsk E s ⟨0, 0, 0, 0⟩).2]
    rfl

set_option maxRecDepth 100000 in
set_option maxHeartbeats 2000000 in
theorem rest_any (E : Env) (hE : EnvOk E) (H : Hd) (B p eb : Nat) (s : LS) (draw : Int) (w : World) (hL : LifeR E H B p eb w s) (hpos : s.pos ≤ E.seen.length) (hf0 : 0 ≤ s.fails) :
    Calls Try.prog 83 #[.pointer (some ⟨p, 0, none⟩), .int .i64 draw] w fun e w' =>
      e = .returned (.tuple #[]) ∧ LifeR E H B p eb w' (mRest E draw s) ∧ Kp [78] B p eb w w' := by
  have HE : Hid (EnvOk E) := hE
  have HL : Hid (LifeR E H B p eb w s) := hL
  obtain ⟨_, _, _, _, _, ⟨hcp1, hcp2⟩, _⟩ := cfgB_true hE.cfg
  have hhd := hL.head
  obtain ⟨_, hfl, _⟩ := hL.nums
  clear hE hL
  obtain ⟨n, hn⟩ : ∃ n : Int, n = (if s.fails < E.c.cp then s.fails else E.c.cp) := ⟨_, rfl⟩
  have hn0 : 0 ≤ n := by rw [hn]; split <;> omega
  have hn8 : n ≤ 8 := by rw [hn]; split <;> omega
  by_cases hd : 0 < draw
  · obtain ⟨m, hm⟩ : ∃ m : Nat, (m : Int) = draw.tmod (n + 1) := ⟨(draw.tmod (n + 1)).toNat, by
      rw [Int.tmod_eq_emod_of_nonneg (by omega)]
      exact Int.toNat_of_nonneg (Int.emod_nonneg _ (by omega))⟩
    have hm8 : m ≤ 8 := by
      have : draw.tmod (n + 1) < n + 1 := by rw [Int.tmod_eq_emod_of_nonneg (by omega)]; exact Int.emod_lt_of_pos _ (by omega)
      omega
    have HF : Hid (mRest E draw s = mNones E m s) := by
      show _ = _
      unfold mRest
      rw [← hn]
      simp only [hd, if_true]
      rw [← hm]
      rfl
    have hmm : draw % (n + 1) = (m : Int) := by rw [hm, Int.tmod_eq_emod_of_nonneg (by omega)]
    have HM0 : Hid ((m : Int) = draw.tmod (n + 1)) := hm
    have hm8' : (m : Int) ≤ 8 := by omega
    clear hm
    rcases (show (s.fails < E.c.cp ∧ n = s.fails) ∨ (¬ s.fails < E.c.cp ∧ n = E.c.cp) from by
      by_cases h : s.fails < E.c.cp
      · exact Or.inl ⟨h, hn.trans (if_pos h)⟩
      · exact Or.inr ⟨h, hn.trans (if_neg h)⟩) with ⟨hcf, hnn⟩ | ⟨hcf, hnn⟩
    all_goals
      clear hn
      subst hnn
      go_enter Try.func83, Try.ntmps83
      go_wp2
      go_loopw [5] (fun i wr => ∃ k : Nat, k ≤ m ∧ i = .int .i64 k ∧ Hid (LifeR E H B p eb wr (mNones E k s)) ∧ Hid (Kp [78] B p eb w wr)) (fun i wr => m - (intOf i).toNat)
      case atStart => exact ⟨0, Nat.zero_le _, rfl, HL, Kp.refl _ _ _ _ _⟩
      case round =>
        obtain ⟨k, hk, rfl, HL1, HK1⟩ := hrel
        by_cases hlt : k < m
        · have hlt' : (k : Int) < (m : Int) := by omega
          have hpk := mNones_pos E k s hpos
          go_wp2_with fail
          refine (askL E HE.out H B p eb _ _ _ _ _ _ HL1.out hpk).mono ?_
          rintro e w1 ⟨rfl, hLa, hKa⟩
          have HLa : Hid (LifeR E H B p eb w1 (mNones E (k + 1) s)) := by
            show LifeR E H B p eb w1 (mNones E (k + 1) s)
            rw [mNones_succ]; exact hLa
          have HKa : Hid (Kp [78] B p eb w w1) := (HK1.out).trans hKa
          clear hLa hKa hpk
          go_wp2
          go_roundw
          case rel => exact ⟨k + 1, by omega, by go_num, HLa, HKa⟩
          case measure => simp [intOf]; omega
        · have hke : k = m := by omega
          subst hke
          have hlt' : ¬ (k : Int) < (k : Int) := by omega
          go_wp2
          go_end0
          exact ⟨rfl, by rw [HF.out]; exact HL1.out, HK1.out⟩
  · have HF : Hid (mRest E draw s = s) := by
      show _ = _
      unfold mRest
      simp [hd]
    clear hn
    by_cases hcf : s.fails < E.c.cp
    all_goals
      go_enter Try.func83, Try.ntmps83
      go_wp2
      go_end0
      exact ⟨rfl, by rw [HF.out]; exact HL.out, Kp.refl _ _ _ _ _⟩

end Go.Proofs.Ytejadojilncbjaa
