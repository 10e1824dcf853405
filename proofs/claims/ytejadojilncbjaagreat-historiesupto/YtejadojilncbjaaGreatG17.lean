import Derived.Test.YtejadojilncbjaaGreatG15
import Derived.Test.YtejadojilncbjaaGreatG16
namespace Go.Proofs.YtejadojilncbjaaGreat
set_option linter.unusedVariables false
theorem mSteps_ok (E : Env) (hE : EnvOk E) : ∀ (n : Nat) {m k : Nat} (s : LS) (x : TS), s.pos ≤ E.seen.length → NotesOk m s → TsOk k x → WvOk x → 0 ≤ s.rank → s.rank ≤ 1125899906842625 → x.place ≤ x.code.length → (x.begun : Int) ≤ E.c.f →
  StOk E (m + n) (k + 2 * n) s x (mSteps E n s x).2.1 (mSteps E n s x).2.2
 | 0, m, k, s, x, hp, hN, hX, hV, h0, h1, hpl, hb => ⟨hp, Nat.le_refl _, hN, hX, h0, h1, rfl, rfl, rfl, rfl, hV⟩
 | n + 1, m, k, s, x, hp, hN, hX, hV, h0, h1, hpl, hb => by
  obtain ⟨a, hpl2, hbg⟩ := mStep_ok E hE s x hp hN hX hV h0 h1 hpl hb
  show StOk E (m + (n + 1)) (k + 2 * (n + 1)) s x (if (mStep E s x).1 = 0 then mSteps E n (mStep E s x).2.1 (mStep E s x).2.2 else mStep E s x).2.1 (if (mStep E s x).1 = 0 then mSteps E n (mStep E s x).2.1 (mStep E s x).2.2 else mStep E s x).2.2
  split
  ·rename_i h
   obtain ⟨hb1, hb2⟩ := hbg h
   have b := mSteps_ok E hE n (mStep E s x).2.1 (mStep E s x).2.2 a.pos a.notes a.ts a.wv a.r0 a.r1 (by rw [a.code]; exact hpl2) (by rw [hb1]; omega)
   exact ⟨b.pos, Nat.le_trans a.mono b.mono, b.notes.more (by omega), b.ts.more (by omega), b.r0, b.r1, b.fails.trans a.fails, b.len.trans a.len, b.code.trans a.code, b.ends.trans a.ends, b.wv⟩
  ·exact ⟨a.pos, a.mono, a.notes.more (by omega), a.ts.more (by omega), a.r0, a.r1, a.fails, a.len, a.code, a.ends, a.wv⟩
structure FaOk (E : Env) (s s' : LS) : Prop where
 pos : s'.pos ≤ E.seen.length
 mono : s.pos ≤ s'.pos
 sn : SN s s'
 ends : s'.ends = s.ends
 r0 : 0 ≤ s'.rank
 r1 : s'.rank ≤ 1125899906842625
 f0 : s.fails ≤ s'.fails
 f1 : s'.fails ≤ s.fails + 1
theorem FaOk.le {E : Env} {a b c : LS} (h : FaOk E a b) (k : LeOk E b c) : FaOk E a c :=
 ⟨k.ls.pos, Nat.le_trans h.mono k.ls.mono, h.sn.trans k.ls.sn, k.ends.trans h.ends, by rw [k.ls.rank]; exact h.r0, by rw [k.ls.rank]; exact h.r1, by rw [k.ls.fails]; exact h.f0, by rw [k.ls.fails]; exact h.f1⟩
theorem mEnded_le (E : Env) (s : LS) (f : Int) (h : s.pos ≤ E.seen.length) : LeOk E s (mEnded E s f) := ⟨⟨h, Nat.le_refl _, mEnded_sn E s f, rfl, rfl⟩, rfl⟩
theorem mAfter_le (E : Env) (win : Int) (s : LS) (h : s.pos ≤ E.seen.length) : LeOk E s (mAfter E win s).2 := by
 unfold mAfter
 have h6 : LeOk E s (if 0 ≤ win then mWait E win (loopFuel E s) s else mRest E (E.draws.getD (s.pos - 1) 0) s) := by
  split
  ·exact mWait_le E win _ s h
  ·exact mRest_le E _ s h
 dsimp only
 generalize (if 0 ≤ win then mWait E win (loopFuel E s) s else mRest E (E.draws.getD (s.pos - 1) 0) s) = s6 at *
 split <;> exact h6
theorem mFailed_le (E : Env) (s : LS) (way : Int) (h : s.pos ≤ E.seen.length) : LeOk E s (mFailed E s way).2 := by
 unfold mFailed
 have h1 : LeOk E s (mStore E s (cStatus E E.me) (8 * s.rank)).2 := mAsk_le E s _ h
 dsimp only
 split
 ·exact h1
 ·have h2 := h1.trans (mEnded_le E _ 5 h1.ls.pos)
  exact h2.trans (mAfter_le E _ _ h2.ls.pos)
theorem mFail_ok (E : Env) (hE : EnvOk E) (s : LS) (x : TS) (h : s.pos ≤ E.seen.length) (hr0 : 0 ≤ s.rank) (hr1 : s.rank ≤ 1125899906842625) : FaOk E s (mFail E s x).2 := by
 rw [mFail_eq]
 have h1 : LeOk E s (if x.inGate then (mStore E s 2 0).2 else s) := by
  split
  ·exact mAsk_le E s _ h
  ·exact LeOk.refl h
 have h2 : LeOk E s (mFree E x (if x.inGate then (mStore E s 2 0).2 else s)) := h1.trans (mFree_le E x _ h1.ls.pos)
 generalize mFree E x (if x.inGate then (mStore E s 2 0).2 else s) = s2 at *
 have h3 : FaOk E s s2 := ⟨h2.ls.pos, h2.ls.mono, h2.ls.sn, h2.ends, by rw [h2.ls.rank]; exact hr0, by rw [h2.ls.rank]; exact hr1, by rw [h2.ls.fails]; omega, by rw [h2.ls.fails]; omega⟩
 split
 ·exact h3
 ·have h4 : FaOk E s (if s2.rank = 0 ∧ E.c.r < s2.fails + 1 then { (mAsk E { s2 with fails := s2.fails + 1 } ⟨4, 1, 0, 0⟩).2 with rank := (mAsk E { s2 with fails := s2.fails + 1 } ⟨4, 1, 0, 0⟩).1 + 1 } else { s2 with fails := s2.fails + 1 }) := by
   have e := h2.ls.fails
   split
   ·have a := mAsk_le E { s2 with fails := s2.fails + 1 } ⟨4, 1, 0, 0⟩ h3.pos
    have v := mAsk_val E hE { s2 with fails := s2.fails + 1 } ⟨4, 1, 0, 0⟩
    have e2 := a.ls.fails
    have hs : SN s2 (mAsk E { s2 with fails := s2.fails + 1 } ⟨4, 1, 0, 0⟩).2 := a.ls.sn
    generalize mAsk E { s2 with fails := s2.fails + 1 } ⟨4, 1, 0, 0⟩ = q at *
    exact ⟨a.ls.pos, Nat.le_trans h3.mono a.ls.mono, h3.sn.trans hs, a.ends.trans h3.ends, by show 0 ≤ q.1 + 1; omega, by show q.1 + 1 ≤ _; omega, by show s.fails ≤ q.2.fails; rw [e2]; show s.fails ≤ s2.fails + 1; omega, by show q.2.fails ≤ _; rw [e2]; show s2.fails + 1 ≤ _; omega⟩
   ·exact ⟨h3.pos, h3.mono, h3.sn, h3.ends, h3.r0, h3.r1, by show s.fails ≤ s2.fails + 1; omega, by show s2.fails + 1 ≤ _; omega⟩
  exact h4.le (mFailed_le E _ _ h4.pos)
theorem mClose_le (E : Env) (e : Int) (s : LS) (x : TS) (h : s.pos ≤ E.seen.length) : LeOk E s (mClose E e s x).2.1 := by
 unfold mClose
 split
 ·exact (mCommit_le E s x h).1
 ·split
  ·exact mFree_le E x s h
  ·exact LeOk.refl h
theorem mAttempt_ok (E : Env) (hE : EnvOk E) (s : LS) (job : Nat) (hj : job < E.jobs.length) (hK : LifeOk E s) (h33 : E.seen.length ≤ 2 ^ 33) : LifeOk E (mAttempt E s job).2 ∧ ((mAttempt E s job).1 = 5 → s.pos < (mAttempt E s job).2.pos) := by
 have hq := mAsk_le E s ⟨1, 0, 0, 0⟩ hK.pos
 have hadv := mAsk_adv E s ⟨1, 0, 0, 0⟩
 have hdead : s.over = true → (mLoad E s 0).2 = s := fun h => by show (mAsk E s _).2 = s; rw [mAsk_dead h]
 have hU : mAttempt E s job = (if (mLoad E s 0).2.over then (-1, (mLoad E s 0).2) else _) := rfl
 rw [hU]
 clear hU
 have hq' : LeOk E s (mLoad E s 0).2 := hq
 have hadv' : s.over = false → s.pos ≤ E.seen.length → ((mLoad E s 0).2.over = true ∨ ((mLoad E s 0).2.over = false ∧ (mLoad E s 0).2.pos = s.pos + 1)) := hadv
 clear hq hadv
 generalize mLoad E s 0 = q at *
 obtain ⟨v, s1⟩ := q
 simp only at *
 have keepNt : ∀ a ∈ s1.list, a.notes.length ≤ 64 * s.pos := fun a ha => by
  have h4 : a.notes.length ∈ s1.list.map (fun a => a.notes.length) := List.mem_map_of_mem ha
  rw [show s1.list.map (fun a => a.notes.length) = s.list.map (fun a => a.notes.length) from hq'.ls.sn] at h4
  obtain ⟨b', hb', e'⟩ := List.mem_map.1 h4
  rw [← e']; exact hK.nt b' hb'
 have l1 : s1.list.length = s.list.length := hq'.ls.sn.len
 have m1 := hq'.ls.mono
 have p1 := hq'.ls.pos
 have f1 := hq'.ls.fails
 have r1 := hq'.ls.rank
 have k1 := hK.len
 have k2 := hK.f0
 have k3 := hK.f1
 have k4 := hK.r0
 have k5 := hK.r1
 have k6 := hK.pos
 split
 ·refine ⟨⟨p1, by show s1.list.length ≤ s1.pos; omega, fun a ha => Nat.le_trans (keepNt a ha) (by show _ ≤ 64 * s1.pos; omega), by show 0 ≤ s1.rank; omega, by show s1.rank ≤ _; omega, by show 0 ≤ s1.fails; omega, by show s1.fails ≤ (s1.pos : Int); omega, by show s1.ends.length = _; rw [hq'.ends]; exact hK.ends⟩, by simp⟩
 ·rename_i hov
  have hp1 : s1.pos = s.pos + 1 := by
   cases h : s.over with
   | true => have e := hdead h; rw [e, h] at hov; simp at hov
   | false =>
    rcases hadv' h hK.pos with h2 | h2
    ·rw [h2] at hov; simp at hov
    ·exact h2.2
  obtain ⟨_, _, _, _, _, _, ⟨hfu1, hfu2⟩⟩ := cfgB_true hE.cfg
  have hc : (E.jobs.getD job (0, [])).2.length ≤ 20 := by
   have hm : E.jobs.getD job (0, []) ∈ E.jobs := by
    rw [show E.jobs.getD job (0, []) = E.jobs[job] from by simp [List.getD, List.getElem?_eq_getElem hj]]
    exact List.getElem_mem hj
   exact hE.codes _ hm
  generalize (E.jobs.getD job (0, [])).2 = code at *
  generalize hatt : (⟨E.me, job, E.whens.getD (s1.pos - 1) 0, 0, v, 0, 0, []⟩ : AttD) = att
  have hnil : att.notes = [] := by rw [← hatt]
  have hN : NotesOk (64 * s.pos) ({ s1 with list := s1.list ++ [att] } : LS) := by
   refine ⟨by simp, by simp; omega, fun a ha => ?_⟩
   rcases List.mem_append.1 ha with h | h
   ·exact keepNt a h
   ·simp at h; subst h; rw [hnil]; simp
  have hX : TsOk 0 (newTS code v) := ⟨by simp [newTS], by simp [newTS], by simp [newTS], by simp [newTS], by simp [newTS], by simp [newTS], by simp [newTS], by simp [newTS], by simp [newTS], rfl⟩
  have a := mSteps_ok E hE (E.c.f.toNat + 2) { s1 with list := s1.list ++ [att] } (newTS code v) p1 hN hX (by simp [newTS, WvOk]) (by show 0 ≤ s1.rank; omega) (by show s1.rank ≤ _; omega) (by simp [newTS]) (by simp [newTS]; omega)
  generalize mSteps E (E.c.f.toNat + 2) { s1 with list := s1.list ++ [att] } (newTS code v) = t at *
  have al : t.2.1.list.length = s.list.length + 1 := by rw [a.len]; simp [l1]
  have am : s1.pos ≤ t.2.1.pos := a.mono
  have af : t.2.1.fails = s1.fails := a.fails
  have ae : t.2.1.ends = s1.ends := a.ends
  have ap := a.pos
  have ar0 := a.r0
  have ar1 := a.r1
  have fin : ∀ s' : LS, t.2.1.pos ≤ s'.pos → s'.pos ≤ E.seen.length → SN t.2.1 s' → 0 ≤ s'.rank → s'.rank ≤ 1125899906842625 → t.2.1.fails ≤ s'.fails → s'.fails ≤ t.2.1.fails + 1 → s'.ends.length = t.2.1.ends.length → LifeOk E s' := fun s' b1 b2 b3 b4 b5 b6 b7 b8 => by
   have e1 := b3.len
   refine ⟨b2, by omega, fun y hy => ?_, b4, b5, by omega, by omega, ?_⟩
   ·have h4 : y.notes.length ∈ s'.list.map (fun a => a.notes.length) := List.mem_map_of_mem hy
    rw [show s'.list.map (fun a => a.notes.length) = t.2.1.list.map (fun a => a.notes.length) from b3] at h4
    obtain ⟨b', hb', e'⟩ := List.mem_map.1 h4
    have := a.notes.nt b' hb'
    omega
   ·rw [b8, ae, hq'.ends]; exact hK.ends
  split
  ·exact ⟨fin t.2.1 (Nat.le_refl _) a.pos (SN.refl _) a.r0 a.r1 (by omega) (by omega) rfl, by simp⟩
  ·have c := mClose_le E t.1 t.2.1 t.2.2 a.pos
   generalize mClose E t.1 t.2.1 t.2.2 = u at *
   have cr := c.ls.rank
   have cf := c.ls.fails
   have cm := c.ls.mono
   split
   ·have d := mFail_ok E hE u.2.1 u.2.2 c.ls.pos (by omega) (by omega)
    have dm := d.mono
    have df0 := d.f0
    have df1 := d.f1
    exact ⟨fin _ (by omega) d.pos (c.ls.sn.trans d.sn) d.r0 d.r1 (by omega) (by omega) (by rw [d.ends, c.ends]), fun _ => by omega⟩
   ·have d : LeOk E t.2.1 (mStore E u.2.1 (cStatus E E.me) 0).2 := c.trans (mAsk_le E _ _ c.ls.pos)
    generalize mStore E u.2.1 (cStatus E E.me) 0 = q2 at *
    have dr := d.ls.rank
    have df := d.ls.fails
    have dm := d.ls.mono
    split
    ·exact ⟨fin q2.2 dm d.ls.pos d.ls.sn (by omega) (by omega) (by omega) (by omega) (by rw [d.ends]), by simp⟩
    ·have g := d.trans (mEnded_le E _ u.1 d.ls.pos)
     have gr := g.ls.rank
     have gf := g.ls.fails
     have gm := g.ls.mono
     generalize mEnded E q2.2 u.1 = s9 at *
     refine ⟨fin _ gm g.ls.pos (g.ls.sn.trans (SN.of_list rfl)) (by show 0 ≤ s9.rank; omega) (by show s9.rank ≤ _; omega) (by show _ ≤ s9.fails; omega) (by show s9.fails ≤ _; omega) (by show (s9.ends.set _ _).length = _; rw [List.length_set, g.ends]), fun h => by simp only at h; omega⟩
theorem mAttempts_ok (E : Env) (hE : EnvOk E) (job : Nat) (hj : job < E.jobs.length) (h33 : E.seen.length ≤ 2 ^ 33) : ∀ (n : Nat) (s : LS), LifeOk E s → LifeOk E (mAttempts E job n s)
 | 0, s, h => h
 | n + 1, s, h => by
  have a := (mAttempt_ok E hE s job hj h h33).1
  show LifeOk E (if (mAttempt E s job).1 = 5 then mAttempts E job n (mAttempt E s job).2 else (mAttempt E s job).2)
  split
  ·exact mAttempts_ok E hE job hj h33 n _ a
  ·exact a
end Go.Proofs.YtejadojilncbjaaGreat
namespace Go.Proofs.YtejadojilncbjaaGreat
open Go.RowKit
set_option linter.unusedVariables false
attribute [local go_sem ↓] Go.wp_at_zero Go.wp_at_succ
theorem mJobs_ok (E : Env) (hE : EnvOk E) (h33 : E.seen.length ≤ 2 ^ 33) : ∀ (l : List (Int × List InsD)) (j : Nat) (s : LS), j + l.length ≤ E.jobs.length → LifeOk E s → LifeOk E (mJobs E j l s)
 | [], j, s, hl, h => h
 | b :: r, j, s, hl, h => by
  simp at hl
  refine mJobs_ok E hE h33 r (j + 1) _ (by omega) ?_
  split
  ·exact mAttempts_ok E hE j (by omega) h33 _ _ ⟨h.pos, h.len, h.nt, by simp, by simp, by simp, by simp, h.ends⟩
  ·exact h
set_option maxRecDepth 100000 in
set_option maxHeartbeats 8000000 in
theorem live_any (E : Env) (hE : EnvOk E) (H : Hd) (B p eb : Nat) (s : LS) (w : World) (hL : LifeR E H B p eb w s) (hK : LifeOk E s) (h33 : E.seen.length ≤ 2 ^ 33) :
  Calls Tryz.prog 65 #[.pointer (some ⟨p, 0, none⟩)] w fun e w' =>
   e = .returned (.tuple #[]) ∧ LifeR E H B p eb w' (mLive E s) ∧ Kp [88, 145, 63, 160, 95, 3, 84] B p eb w w' := by
 have HE : Hid (EnvOk E) := hE
 have HL : Hid (LifeR E H B p eb w s) := hL
 have HO : Hid (LifeOk E s) := hK
 have H33 : Hid (E.seen.length ≤ 2 ^ 33) := h33
 have hjl := hE.jobs
 clear hE hL hK
 obtain ⟨T, HT⟩ : ∃ T, Hid (mJobs E 0 E.jobs s = T) := ⟨_, rfl⟩
 have HOT : Hid (LifeOk E T) := by
  rw [← show mJobs E 0 E.jobs s = T from HT.out]
  exact mJobs_ok E HE.out H33.out E.jobs 0 s (by omega) HO.out
 obtain ⟨R, HR⟩ : ∃ R, Hid (mIdle E (loopFuel E T) T = R) := ⟨_, rfl⟩
 rw [show mLive E s = R from by rw [← show mIdle E (loopFuel E T) T = R from HR.out, ← show mJobs E 0 E.jobs s = T from HT.out]; rfl]
 go_enter Tryz.func65, Tryz.ntmps65
 go_wp2
 go_loopg [2] (E.jobs.length + 1) (fun n t wr => ∃ (j : Nat) (sk : LS), t = .int .i64 (j : Int) ∧ j ≤ E.jobs.length ∧ n = E.jobs.length + 1 - j ∧ Hid (mJobs E j (E.jobs.drop j) sk = T) ∧ Hid (LifeOk E sk) ∧ Hid (LifeR E H B p eb wr sk) ∧ Hid (Kp [88, 145, 63, 160, 95, 3, 84] B p eb w wr))
 case atStart => exact ⟨0, s, rfl, by omega, by omega, by simpa using HT, HO, HL, Kp.refl _ _ _ _ _⟩
 case round =>
  obtain ⟨j, sk, rfl, hjle, hgk, HM, HOk, HLk, HKk⟩ := hrel
  clear HT HL HO
  have hc8 := (HLk.out).head 8 (by omega)
  simp at hc8
  by_cases hj : j < E.jobs.length
  ·have hjI : (j : Int) < (E.jobs.length : Int) := by omega
   have hj0 : (0 : Int) ≤ (j : Int) := by omega
   obtain ⟨js, hjs, hji, hjc⟩ := (HLk.out).stat.jobs
   obtain ⟨jb, joff, hja, hjb, hjt, hjs2⟩ := hji j (by omega)
   obtain ⟨hjth, _, _, _⟩ := hjc j (by omega)
   rw [hjth] at hjt
   rw [hja] at hc8
   obtain ⟨jd, hjd⟩ : ∃ jd, jd = E.jobs.getD j (0, []) := ⟨_, rfl⟩
   rw [← hjd] at hjt
   have hdrop : E.jobs.drop j = jd :: E.jobs.drop (j + 1) := by
    rw [List.drop_eq_getElem_cons hj, hjd]
    simp [List.getD, List.getElem?_eq_getElem hj]
   have HM2 : Hid (mJobs E (j + 1) (E.jobs.drop (j + 1)) (if jd.1 = E.me then mAttempts E j (loopFuel E sk) { sk with rank := 0, fails := 0 } else sk) = T) := by
    show _ = _
    rw [← HM.out, hdrop]
    rfl
   have hc9 := (HLk.out).head 9 (by omega)
   simp at hc9
   have HJ : Hid (j < E.jobs.length) := hj
   have HGK : Hid (gk = E.jobs.length + 1 - j) := hgk
   have hfz19 := (HLk.out).fz 19
   have hfz20 := (HLk.out).fz 20
   obtain ⟨hrk, hfl, _⟩ := (HLk.out).nums
   have hwj : IntKind.i64.wrap ((j : Int) + 1) = (j : Int) + 1 := wrapF _ (by omega) (by omega)
   clear HM hjs hji hjc hjth hjd hdrop hgk hjs2 hja
   obtain ⟨go, HGO⟩ : ∃ go, Hid (go = gk) := ⟨_, rfl⟩
   by_cases hme : jd.1 = E.me
   ·have HM3 : Hid (mJobs E (j + 1) (E.jobs.drop (j + 1)) (mAttempts E j (loopFuel E sk) { sk with rank := 0, fails := 0 }) = T) := by
     have h := HM2.out
     rw [if_pos hme] at h
     exact h
    have hbe : (jd.1 == E.me) = true := by simp [hme]
    have HOn : Hid (LifeOk E { sk with rank := 0, fails := 0 }) := ⟨(HOk.out).pos, (HOk.out).len, (HOk.out).nt, by simp, by simp, by simp, by simp, (HOk.out).ends⟩
    clear HM2 hme
    go_wp2
    go_quiet (fail)
    have hLK1 := ((HLk.out).drewN nq).set (s' := { sk with rank := 0 }) (i := 19) (v := .int .i64 0) rfl rfl (fun _ _ => rfl)
    have hLK2 := hLK1.1.set (s' := { sk with rank := 0, fails := 0 }) (i := 20) (v := .int .i64 0) rfl rfl (fun _ _ => rfl)
    have HLn : Hid _ := hLK2.1
    have HKn : Hid (Kp [88, 145, 63, 160, 95, 3, 84] B p eb w _) := (((HKk.out).drewN nq).trans (hLK1.2.wide (by simp))).trans (hLK2.2.wide (by simp))
    clear hLK1 hLK2
    obtain ⟨A, HA⟩ : ∃ A, Hid (mAttempts E j (loopFuel E sk) { sk with rank := 0, fails := 0 } = A) := ⟨_, rfl⟩
    have HM4 : Hid (mJobs E (j + 1) (E.jobs.drop (j + 1)) A = T) := by rw [← show mAttempts E j (loopFuel E sk) { sk with rank := 0, fails := 0 } = A from HA.out]; exact HM3
    have HFu : Hid (E.seen.length - ({ sk with rank := 0, fails := 0 } : LS).pos + 1 ≤ loopFuel E sk) := by show _ ≤ _; unfold loopFuel; simp only; omega
    clear HM3
    go_wp2
    generalize hs0 : ({ sk with rank := 0, fails := 0 } : LS) = s0 at *
    have HS0 : Hid (sk.pos = s0.pos) := by rw [← hs0]; rfl
    clear hs0
    generalize loopFuel E sk = lf at *
    generalize ((wr.drewN nq).setCell ⟨p, 19, none⟩ (.int .i64 0)).setCell ⟨p, 20, none⟩ (.int .i64 0) = w0 at *
    clear hc8 hc9 hjt hfz19 hfz20 hrk hfl HLk HKk HOk hbe
    go_loopg [3] (lf + 1) (fun n t wi => ∃ (ev : Int) (si : LS), t = .int .i64 ev ∧ Hid (LifeOk E si) ∧ Hid (LifeR E H B p eb wi si) ∧ Hid (Kp [88, 145, 63, 160, 95, 3, 84] B p eb w wi) ∧
        Hid ((ev = 5 ∧ ∃ m, n = m + 1 ∧ mAttempts E j m si = A ∧ E.seen.length - si.pos + 1 ≤ m) ∨ (ev ≠ 5 ∧ A = si)))
    case atStart => exact ⟨5, s0, rfl, HOn, HLn, HKn, Or.inl ⟨rfl, lf, rfl, HA.out, by rw [← show sk.pos = s0.pos from HS0.out]; exact HFu.out⟩⟩
    case round =>
     obtain ⟨ev, si, rfl, HOi, HLi, HKi, HC⟩ := hrel
     clear HOn HLn HKn HA HFu
     by_cases hev : ev = 5
     ·have hcs : ∃ m, gk = m + 1 ∧ mAttempts E j m si = A ∧ E.seen.length - si.pos + 1 ≤ m := by
       rcases HC.out with h | h
       ·exact h.2
       ·exact absurd hev h.1
      obtain ⟨m, hgm, hma, hfu⟩ := hcs
      obtain ⟨m2, rfl⟩ : ∃ m2, m = m2 + 1 := ⟨m - 1, by omega⟩
      have hbe : (ev == 5) = true := by simp [hev]
      have HMA : Hid (A = if (mAttempt E si j).1 = 5 then mAttempts E j m2 (mAttempt E si j).2 else (mAttempt E si j).2) := hma.symm
      have HAt : Hid (LifeOk E (mAttempt E si j).2 ∧ ((mAttempt E si j).1 = 5 → si.pos < (mAttempt E si j).2.pos)) := mAttempt_ok E HE.out si j HJ.out HOi.out H33.out
      have HFm : Hid (gk = m2 + 1 + 1 ∧ E.seen.length - si.pos + 1 ≤ m2 + 1) := ⟨hgm, hfu⟩
      clear hma hgm hfu HC hev
      go_wp2_with fail
      refine (attempt_any E HE.out H B p eb j si _ HLi.out HOi.out H33.out HJ.out).mono ?_
      rintro e w5 ⟨rfl, hL5, hK5⟩
      have HL5 : Hid (LifeR E H B p eb w5 (mAttempt E si j).2) := hL5
      have HK5 : Hid (Kp [88, 145, 63, 160, 95, 3, 84] B p eb w w5) := (HKi.out).trans hK5
      clear hL5 hK5
      generalize mAttempt E si j = q at *
      go_wp2
      go_roundg (gk - 1)
      case rel =>
       refine ⟨q.1, q.2, rfl, (HAt.out).1, HL5, HK5, ?_⟩
       by_cases h : q.1 = 5
       ·have h1 := (HAt.out).2 h
        have h2 := (HAt.out).1.pos
        have h3 := HFm.out
        exact Or.inl ⟨h, m2, by omega, ((HMA.out).trans (if_pos h)).symm, by omega⟩
       ·exact Or.inr ⟨h, (HMA.out).trans (if_neg h)⟩
      case measure => have := (HFm.out).1; omega
     ·have hA : A = si := by
       rcases HC.out with h | h
       ·exact absurd h.1 hev
       ·exact h.2
      have hbe : (ev == 5) = false := by simpa using hev
      subst hA
      clear HC
      go_wp2
      go_roundg (go - 1)
      case rel =>
       refine ⟨j + 1, A, by simp, by have := HJ.out; omega, by rw [HGO.out, HGK.out]; omega, HM4, HOi, HLi, HKi⟩
      case measure => have h1 := HGO.out; have h2 := HGK.out; have := HJ.out; omega
   ·have HM3 : Hid (mJobs E (j + 1) (E.jobs.drop (j + 1)) sk = T) := by
     have h := HM2.out
     rw [if_neg hme] at h
     exact h
    have hbe : (jd.1 == E.me) = false := by simpa using hme
    clear HM2 hme
    go_wp2
    go_quiet (fail)
    go_wp2
    go_roundg (gk - 1)
    case rel => exact ⟨j + 1, sk, by simp, by have := HJ.out; omega, by rw [HGK.out]; omega, HM3, HOk, (HLk.out).drewN nq, (HKk.out).drewN nq⟩
    case measure => have h2 := HGK.out; have := HJ.out; omega
  ·have hje : j = E.jobs.length := by omega
   have hT : T = sk := by
    have h := HM.out
    rw [hje] at h
    simp [mJobs] at h
    exact h.symm
   have hjI : ¬ (j : Int) < (E.jobs.length : Int) := by omega
   clear HM
   subst hT
   go_wp2
   go_loopg [39] (loopFuel E T) (fun n t wi => ∃ (si : LS), Hid (mIdle E n si = R) ∧ Hid (enough E si n) ∧ Hid (LifeR E H B p eb wi si) ∧ Hid (Kp [88, 145, 63, 160, 95, 3, 84] B p eb w wi) ∧ si.pos ≤ E.seen.length)
   case atStart => exact ⟨T, HR, enough_fuel E T, HLk, HKk, (HOT.out).pos⟩
   case round =>
    obtain ⟨si, HMi, HEn, HLi, HKi, hpi⟩ := hrel
    obtain ⟨n, rfl⟩ : ∃ n, gk = n + 1 := ⟨gk - 1, by have := HEn.out.1; omega⟩
    have hov := (HLi.out).over
    clear hc8
    cases hso : si.over with
    | true =>
     have HF : Hid (R = si) := by show _ = _; rw [← HMi.out, mIdle]; simp [hso]
     go_wp2
     go_end0
     exact ⟨rfl, by rw [HF.out]; exact HLi.out, HKi.out⟩
    | false =>
     have HM2 : Hid (mIdle E n (mAsk E si ⟨0, 0, 0, 0⟩).2 = R) := by show _ = _; rw [← HMi.out, mIdle]; simp [hso]
     have HA1 : Hid ((mAsk E si ⟨0, 0, 0, 0⟩).2.over = true ∨ ((mAsk E si ⟨0, 0, 0, 0⟩).2.over = false ∧ (mAsk E si ⟨0, 0, 0, 0⟩).2.pos = si.pos + 1)) := mAsk_adv E si _ hso hpi
     have HSO : Hid (si.over = false) := hso
     have HP1 : Hid ((mAsk E si ⟨0, 0, 0, 0⟩).2.pos ≤ E.seen.length) := (mAsk_pos E si _ hpi).2
     clear HMi
     go_wp2_with fail
     refine (askL E HE.out H B p eb si _ _ _ _ _ HLi.out hpi).mono ?_
     rintro e w5 ⟨rfl, hL5, hK5⟩
     have HL5 : Hid (LifeR E H B p eb w5 (mAsk E si ⟨0, 0, 0, 0⟩).2) := hL5
     have HK5 : Hid (Kp [88, 145, 63, 160, 95, 3, 84] B p eb w w5) := (HKi.out).trans (hK5.wide (by simp))
     clear hL5 hK5 hov
     generalize mAsk E si ⟨0, 0, 0, 0⟩ = q at *
     go_wp2
     go_roundg n
     case rel => exact ⟨q.2, HM2, enough_next HEn.out HSO.out ((HA1.out).imp id (fun h => by have := h.2; omega)) HP1.out, HL5, HK5, HP1.out⟩
     case measure => omega
end Go.Proofs.YtejadojilncbjaaGreat
