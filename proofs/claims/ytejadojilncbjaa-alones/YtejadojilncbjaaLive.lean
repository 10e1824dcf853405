import Derived.Test.YtejadojilncbjaaAtt
import Derived.Test.YtejadojilncbjaaInv5
namespace Go.Proofs.Ytejadojilncbjaa
open Go.RowKit
set_option linter.unusedVariables false
attribute [local go_sem ↓] Go.wp_at_zero Go.wp_at_succ

theorem mJobs_ok (E : Env) (hE : EnvOk E) (h33 : E.seen.length ≤ 2 ^ 33) : ∀ (l : List (Int × List InsD)) (j : Nat) (s : LS), j + l.length ≤ E.jobs.length → LifeOk E s → LifeOk E (mJobs E j l s)
  | [], j, s, hl, h => h
  | b :: r, j, s, hl, h => by
    simp at hl
    refine mJobs_ok E hE h33 r (j + 1) _ (by omega) ?_
    split
    · exact mAttempts_ok E hE j (by omega) h33 _ _ ⟨h.pos, h.len, h.nt, by simp, by simp, by simp, by simp, h.ends⟩
    · exact h

set_option maxRecDepth 100000 in
set_option maxHeartbeats 8000000 in
theorem live_any (E : Env) (hE : EnvOk E) (H : Hd) (B p eb : Nat) (s : LS) (w : World) (hL : LifeR E H B p eb w s) (hK : LifeOk E s) (h33 : E.seen.length ≤ 2 ^ 33) :
    Calls Try.prog 47 #[.pointer (some ⟨p, 0, none⟩)] w fun e w' =>
      e = .returned (.tuple #[]) ∧ LifeR E H B p eb w' (mLive E s) ∧ Kp [78, 134, 109, 144, 158, 3, 35] B p eb w w' := by
  have HE : Hid (EnvOk E) := hE
  have HL : Hid (LifeR E H B p eb w s) := hL
  have HO : Hid (LifeOk E s) := hK
  have H33 : Hid (E.seen.length ≤ 2 ^ 33) := h33
  have hjl := hE.jobs
  clear hE hL hK
  obtain ⟨T, HT⟩ : ∃ T, Hid (mJobs E 0 E.jobs s = T) := ⟨_, rfl⟩
  have HOT : Hid (LifeOk E T) := by
    rw [← show mJobs E 0 E.jobs s = T from HT.out]
    exact mJobs_ok E HE.out H33.out E.jobs 0 s (by omega) HO.out
  obtain ⟨R, HR⟩ : ∃ R, Hid (mIdle E (loopFuel E T) T = R) := ⟨_, rfl⟩
  rw [show mLive E s = R from by rw [← show mIdle E (loopFuel E T) T = R from HR.out, ← show mJobs E 0 E.jobs s = T from HT.out]; rfl]
  go_enter Try.func47, Try.ntmps47
  go_wp2
  go_loopg [2] (E.jobs.length + 1) (fun n t wr => ∃ (j : Nat) (sk : LS), t = .int .i64 (j : Int) ∧ j ≤ E.jobs.length ∧ n = E.jobs.length + 1 - j ∧ Hid (mJobs E j (E.jobs.drop j) sk = T) ∧ Hid (LifeOk E sk) ∧ Hid (LifeR E H B p eb wr sk) ∧ Hid (Kp [78, 134, 109, 144, 158, 3, 35] B p eb w wr))
  case atStart => exact ⟨0, s, rfl, by omega, by omega, by simpa using HT, HO, HL, Kp.refl _ _ _ _ _⟩
  case round =>
    obtain ⟨j, sk, rfl, hjle, hgk, HM, HOk, HLk, HKk⟩ := hrel
    clear HT HL HO
    have hc8 := (HLk.out).head 8 (by omega)
    simp at hc8
    by_cases hj : j < E.jobs.length
    · have hjI : (j : Int) < (E.jobs.length : Int) := by omega
      have hj0 : (0 : Int) ≤ (j : Int) := by omega
      obtain ⟨js, hjs, hji, hjc⟩ := (HLk.out).stat.jobs
      obtain ⟨jb, joff, hja, hjb, hjt, hjs2⟩ := hji j (by omega)
      obtain ⟨hjth, _, _, _⟩ := hjc j (by omega)
      rw [hjth] at hjt
      rw [hja] at hc8
      obtain ⟨jd, hjd⟩ : ∃ jd, jd = E.jobs.getD j (0, []) := ⟨_, rfl⟩
      rw [← hjd] at hjt
      have hdrop : E.jobs.drop j = jd :: E.jobs.drop (j + 1) := by
        rw [List.drop_eq_getElem_cons hj, hjd]
        simp [List.getD, List.getElem?_eq_getElem hj]
      have HM2 : Hid (mJobs E (j + 1) (E.jobs.drop (j + 1)) (if jd.1 = E.me then mAttempts E j (loopFuel E sk) { sk with rank := 0, fails := 0 } else sk) = T) := by
        show _ = _
        rw [← HM.out, hdrop]
        rfl
      have hc9 := (HLk.out).head 9 (by omega)
      simp at hc9
      have HJ : Hid (j < E.jobs.length) := hj
      have HGK : Hid (gk = E.jobs.length + 1 - j) := hgk
      have hfz19 := (HLk.out).fz 19
      have hfz20 := (HLk.out).fz 20
      obtain ⟨hrk, hfl, _⟩ := (HLk.out).nums
      have hwj : IntKind.i64.wrap ((j : Int) + 1) = (j : Int) + 1 := wrapF _ (by omega) (by omega)
      clear HM hjs hji hjc hjth hjd hdrop hgk hjs2 hja
      obtain ⟨go, HGO⟩ : ∃ go, Hid (go = gk) := ⟨_, rfl⟩
      by_cases hme : jd.1 = E.me
      · have HM3 : Hid (mJobs E (j + 1) (E.jobs.drop (j + 1)) (mAttempts E j (loopFuel E sk) { sk with rank := 0, fails := 0 }) = T) := by
          have h := HM2.out
          rw [if_pos hme] at h
          exact h
        have hbe : (jd.1 == E.me) = true := by simp [hme]
        have HOn : Hid (LifeOk E { sk with rank := 0, fails := 0 }) := ⟨(HOk.out).pos, (HOk.out).len, (HOk.out).nt, by simp, by simp, by simp, by simp, (HOk.out).ends⟩
        clear HM2 hme
        go_wp2
        go_quiet (fail)
        have hLK1 := ((HLk.out).drewN nq).set (s' := { sk with rank := 0 }) (i := 19) (v := .int .i64 0) rfl rfl (fun _ _ => rfl)
        have hLK2 := hLK1.1.set (s' := { sk with rank := 0, fails := 0 }) (i := 20) (v := .int .i64 0) rfl rfl (fun _ _ => rfl)
        have HLn : Hid _ := hLK2.1
        have HKn : Hid (Kp [78, 134, 109, 144, 158, 3, 35] B p eb w _) := (((HKk.out).drewN nq).trans (hLK1.2.wide (by simp))).trans (hLK2.2.wide (by simp))
        clear hLK1 hLK2
        obtain ⟨A, HA⟩ : ∃ A, Hid (mAttempts E j (loopFuel E sk) { sk with rank := 0, fails := 0 } = A) := ⟨_, rfl⟩
        have HM4 : Hid (mJobs E (j + 1) (E.jobs.drop (j + 1)) A = T) := by rw [← show mAttempts E j (loopFuel E sk) { sk with rank := 0, fails := 0 } = A from HA.out]; exact HM3
        have HFu : Hid (E.seen.length - ({ sk with rank := 0, fails := 0 } : LS).pos + 1 ≤ loopFuel E sk) := by show _ ≤ _; unfold loopFuel; simp only; omega
        clear HM3
        go_wp2
        generalize hs0 : ({ sk with rank := 0, fails := 0 } : LS) = s0 at *
        have HS0 : Hid (sk.pos = s0.pos) := by rw [← hs0]; rfl
        clear hs0
        generalize loopFuel E sk = lf at *
        generalize ((wr.drewN nq).setCell ⟨p, 19, none⟩ (.int .i64 0)).setCell ⟨p, 20, none⟩ (.int .i64 0) = w0 at *
        clear hc8 hc9 hjt hfz19 hfz20 hrk hfl HLk HKk HOk hbe
        go_loopg [3] (lf + 1) (fun n t wi => ∃ (ev : Int) (si : LS), t = .int .i64 ev ∧ Hid (LifeOk E si) ∧ Hid (LifeR E H B p eb wi si) ∧ Hid (Kp [78, 134, 109, 144, 158, 3, 35] B p eb w wi) ∧
          Hid ((ev = 5 ∧ ∃ m, n = m + 1 ∧ mAttempts E j m si = A ∧ E.seen.length - si.pos + 1 ≤ m) ∨ (ev ≠ 5 ∧ A = si)))
        case atStart => exact ⟨5, s0, rfl, HOn, HLn, HKn, Or.inl ⟨rfl, lf, rfl, HA.out, by rw [← show sk.pos = s0.pos from HS0.out]; exact HFu.out⟩⟩
        case round =>
          obtain ⟨ev, si, rfl, HOi, HLi, HKi, HC⟩ := hrel
          clear HOn HLn HKn HA HFu
          by_cases hev : ev = 5
          · have hcs : ∃ m, gk = m + 1 ∧ mAttempts E j m si = A ∧ E.seen.length - si.pos + 1 ≤ m := by
              rcases HC.out with h | h
              · exact h.2
              · exact absurd hev h.1
            obtain ⟨m, hgm, hma, hfu⟩ := hcs
            obtain ⟨m2, rfl⟩ : ∃ m2, m = m2 + 1 := ⟨m - 1, by omega⟩
            have hbe : (ev == 5) = true := by simp [hev]
            have HMA : Hid (A = if (mAttempt E si j).1 = 5 then mAttempts E j m2 (mAttempt E si j).2 else (mAttempt E si j).2) := hma.symm
            have HAt : Hid (LifeOk E (mAttempt E si j).2 ∧ ((mAttempt E si j).1 = 5 → si.pos < (mAttempt E si j).2.pos)) := mAttempt_ok E HE.out si j HJ.out HOi.out H33.out
            have HFm : Hid (gk = m2 + 1 + 1 ∧ E.seen.length - si.pos + 1 ≤ m2 + 1) := ⟨hgm, hfu⟩
            clear hma hgm hfu HC hev
            go_wp2_with fail
            refine (attempt_any E HE.out H B p eb j si _ HLi.out HOi.out H33.out HJ.out).mono ?_
            rintro e w5 ⟨rfl, hL5, hK5⟩
            have HL5 : Hid (LifeR E H B p eb w5 (mAttempt E si j).2) := hL5
            have HK5 : Hid (Kp [78, 134, 109, 144, 158, 3, 35] B p eb w w5) := (HKi.out).trans hK5
            clear hL5 hK5
            generalize mAttempt E si j = q at *
            go_wp2
            go_roundg (gk - 1)
            case rel =>
              refine ⟨q.1, q.2, rfl, (HAt.out).1, HL5, HK5, ?_⟩
              by_cases h : q.1 = 5
              · have h1 := (HAt.out).2 h
                have h2 := (HAt.out).1.pos
                have h3 := HFm.out
                exact Or.inl ⟨h, m2, by omega, ((HMA.out).trans (if_pos h)).symm, by omega⟩
              · exact Or.inr ⟨h, (HMA.out).trans (if_neg h)⟩
            case measure => have := (HFm.out).1; omega
          · have hA : A = si := by
              rcases HC.out with h | h
              · exact absurd h.1 hev
              · exact h.2
            have hbe : (ev == 5) = false := by simpa using hev
            subst hA
            clear HC
            go_wp2
            go_roundg (go - 1)
            case rel =>
              refine ⟨j + 1, A, by simp, by have := HJ.out; omega, by rw [HGO.out, HGK.out]; omega, HM4, HOi, HLi, HKi⟩
            case measure => have h1 := HGO.out; have h2 := HGK.out; have := HJ.out; omega
      · have HM3 : Hid (mJobs E (j + 1) (E.jobs.drop (j + 1)) sk = T) := by
          have h := HM2.out
          rw [if_neg hme] at h
          exact h
        have hbe : (jd.1 == E.me) = false := by simpa using hme
        clear HM2 hme
        go_wp2
        go_quiet (fail)
        go_wp2
        go_roundg (gk - 1)
        case rel => exact ⟨j + 1, sk, by simp, by have := HJ.out; omega, by rw [HGK.out]; omega, HM3, HOk, (HLk.out).drewN nq, (HKk.out).drewN nq⟩
        case measure => have h2 := HGK.out; have := HJ.out; omega
    · have hje : j = E.jobs.length := by omega
      have hT : T = sk := by
        have h := HM.out
        rw [hje] at h
        simp [mJobs] at h
        exact h.symm
      have hjI : ¬ (j : Int) < (E.jobs.length : Int) := by omega
      clear HM
      subst hT
      go_wp2
      go_loopg [39] (loopFuel E T) (fun n t wi => ∃ (si : LS), Hid (mIdle E n si = R) ∧ Hid (enough E si n) ∧ Hid (LifeR E H B p eb wi si) ∧ Hid (Kp [78, 134, 109, 144, 158, 3, 35] B p eb w wi) ∧ si.pos ≤ E.seen.length)
      case atStart => exact ⟨T, HR, enough_fuel E T, HLk, HKk, (HOT.out).pos⟩
      case round =>
        obtain ⟨si, HMi, HEn, HLi, HKi, hpi⟩ := hrel
        obtain ⟨n, rfl⟩ : ∃ n, gk = n + 1 := ⟨gk - 1, by have := HEn.out.1; omega⟩
        have hov := (HLi.out).over
        clear hc8
        cases hso : si.over with
        | true =>
          have HF : Hid (R = si) := by show _ = _; rw [← HMi.out, mIdle]; simp [hso]
          go_wp2
          go_end0
          exact ⟨rfl, by rw [HF.out]; exact HLi.out, HKi.out⟩
        | false =>
          have HM2 : Hid (mIdle E n (mAsk E si ⟨0, 0, 0, 0⟩).2 = R) := by show _ = _; rw [← HMi.out, mIdle]; simp [hso]
          have HA1 : Hid ((mAsk E si ⟨0, 0, 0, 0⟩).2.over = true ∨ ((mAsk E si ⟨0, 0, 0, 0⟩).2.over = false ∧ (mAsk E si ⟨0, 0, 0, 0⟩).2.pos = si.pos + 1)) := mAsk_adv E si _ hso hpi
          have HSO : Hid (si.over = false) := hso
          have HP1 : Hid ((mAsk E si ⟨0, 0, 0, 0⟩).2.pos ≤ E.seen.length) := (mAsk_pos E si _ hpi).2
          clear HMi
          go_wp2_with fail
          refine (askL E HE.out H B p eb si _ _ _ _ _ HLi.out hpi).mono ?_
          rintro e w5 ⟨rfl, hL5, hK5⟩
          have HL5 : Hid (LifeR E H B p eb w5 (mAsk E si ⟨0, 0, 0, 0⟩).2) := hL5
          have HK5 : Hid (Kp [78, 134, 109, 144, 158, 3, 35] B p eb w w5) := (HKi.out).trans (hK5.wide (by simp))
          clear hL5 hK5 hov
          generalize mAsk E si ⟨0, 0, 0, 0⟩ = q at *
          go_wp2
          go_roundg n
          case rel => exact ⟨q.2, HM2, enough_next HEn.out HSO.out ((HA1.out).imp id (fun h => by have := h.2; omega)) HP1.out, HL5, HK5, HP1.out⟩
          case measure => omega

end Go.Proofs.Ytejadojilncbjaa
