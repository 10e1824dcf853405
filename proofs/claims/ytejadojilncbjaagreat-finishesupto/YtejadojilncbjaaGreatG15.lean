import Derived.Test.YtejadojilncbjaaGreatG14
namespace Go.Proofs.YtejadojilncbjaaGreat
set_option linter.unusedVariables false
structure LeOk (E : Env) (s s' : LS) : Prop where
 ls : LsOk E s s'
 ends : s'.ends = s.ends
theorem LeOk.refl {E : Env} {s : LS} (h : s.pos ≤ E.seen.length) : LeOk E s s := ⟨LsOk.refl h, rfl⟩
theorem LeOk.trans {E : Env} {a b c : LS} (h : LeOk E a b) (k : LeOk E b c) : LeOk E a c := ⟨h.ls.trans k.ls, k.ends.trans h.ends⟩
theorem mAsk_le (E : Env) (s : LS) (q : AskD) (h : s.pos ≤ E.seen.length) : LeOk E s (mAsk E s q).2 := ⟨mAsk_ok E s q h, mAsk_ends E s q⟩
theorem foldl_le {α : Type} (E : Env) (f : LS → α → LS) (hf : ∀ s a, s.pos ≤ E.seen.length → LeOk E s (f s a)) : ∀ (l : List α) (s : LS), s.pos ≤ E.seen.length → LeOk E s (l.foldl f s)
 | [], s, h => LeOk.refl h
 | a :: l, s, h => (hf s a h).trans (foldl_le E f hf l (f s a) (hf s a h).ls.pos)
theorem mFree_le (E : Env) (x : TS) (s : LS) (h : s.pos ≤ E.seen.length) : LeOk E s (mFree E x s) := foldl_le E _ (fun s a hs => mAsk_le E s _ hs) x.held s h
theorem mGate_le (E : Env) : ∀ (n : Nat) (s : LS) (x : TS), s.pos ≤ E.seen.length → LeOk E s (mGate E n s x).1 ∧ ∃ ig, (mGate E n s x).2 = { x with inGate := ig }
 | 0, s, x, h => ⟨LeOk.refl h, x.inGate, rfl⟩
 | n + 1, s, x, h => by
  unfold mGate
  split
  ·exact ⟨LeOk.refl h, x.inGate, rfl⟩
  ·dsimp only
   have h1 := mAsk_le E s ⟨3, 2, 0, E.me + 1⟩ h
   obtain ⟨h2, ig, h3⟩ := mGate_le E n (mAsk E s ⟨3, 2, 0, E.me + 1⟩).2 { x with inGate := (mAsk E s ⟨3, 2, 0, E.me + 1⟩).1 == 0 } h1.ls.pos
   exact ⟨h1.trans h2, ig, h3⟩
theorem mStill_le (E : Env) (x : TS) (skip : Bool) (l : List EntD) (s : LS) (h : s.pos ≤ E.seen.length) : LeOk E s (mStill E x skip l s).2 := ⟨mStill_ok E x skip l s h, mStill_ends E x skip l s⟩
theorem mGated_le (E : Env) (s : LS) (x : TS) (h : s.pos ≤ E.seen.length) : LeOk E s (mGated E s x).2.1 ∧ (mGated E s x).2.2 = x := by
 have h1 : LeOk E s (mLoad E s 0).2 := mAsk_le E s _ h
 unfold mGated
 dsimp only
 split
 ·exact ⟨h1, rfl⟩
 ·have h2 : LeOk E s (if (mLoad E s 0).1 ≠ x.valid then mStill E x true x.reads (mLoad E s 0).2 else (0, (mLoad E s 0).2)).2 := by
   split
   ·exact h1.trans (mStill_le E x true x.reads _ h1.ls.pos)
   ·exact h1
  generalize (if (mLoad E s 0).1 ≠ x.valid then mStill E x true x.reads (mLoad E s 0).2 else (0, (mLoad E s 0).2)) = t at *
  split
  ·exact ⟨h2, rfl⟩
  ·have h3 : LeOk E s (x.held.foldl (shutStep E) t.2) := h2.trans (foldl_le E _ (fun s a hs => mAsk_le E s _ hs) _ _ h2.ls.pos)
   have h4 : LeOk E s (mStore E (x.held.foldl (shutStep E) t.2) 0 ((mLoad E s 0).1 + 1)).2 := h3.trans (mAsk_le E _ _ h3.ls.pos)
   generalize mStore E (x.held.foldl (shutStep E) t.2) 0 ((mLoad E s 0).1 + 1) = q3 at *
   split
   ·exact ⟨h4, rfl⟩
   ·refine ⟨?_, rfl⟩
    have h5 : LeOk E s { q3.2 with list := modLast q3.2.list fun a => { a with stamp := (mLoad E s 0).1 + 1 } } :=
     h4.trans ⟨⟨h4.ls.pos, Nat.le_refl _, SN.modLast (f := fun a => { a with stamp := (mLoad E s 0).1 + 1 }) (fun _ => rfl) rfl, rfl, rfl⟩, rfl⟩
    generalize ({ q3.2 with list := modLast q3.2.list fun a => { a with stamp := (mLoad E s 0).1 + 1 } } : LS) = s2 at *
    have h6 : LeOk E s (mStore E s2 2 0).2 := h5.trans (mAsk_le E _ _ h5.ls.pos)
    have h7 : LeOk E s (x.writes.foldl (writeStep E) (mStore E s2 2 0).2) := h6.trans (foldl_le E _ (fun s a hs => mAsk_le E s _ hs) _ _ h6.ls.pos)
    exact h7.trans (foldl_le E _ (fun s a hs => (mAsk_le E s _ hs).trans (mAsk_le E _ _ (mAsk_le E s _ hs).ls.pos)) _ _ h7.ls.pos)
theorem mCommit_le (E : Env) (s : LS) (x : TS) (h : s.pos ≤ E.seen.length) : LeOk E s (mCommit E s x).2.1 ∧ ∃ ig, (mCommit E s x).2.2 = { x with inGate := ig } := by
 have h1 : LeOk E s (mLoad E s (cStatus E E.me)).2 := mAsk_le E s _ h
 by_cases hm : (mLoad E s (cStatus E E.me)).2.over = false ∧ 0 < (mLoad E s (cStatus E E.me)).1.tmod 8
 ·rw [mCommit_mark E s x (v1 := (mLoad E s (cStatus E E.me)).1) (s1 := (mLoad E s (cStatus E E.me)).2) rfl hm]
  exact ⟨h1, x.inGate, rfl⟩
 ·rw [mCommit_gate E s x (v1 := (mLoad E s (cStatus E E.me)).1) (s1 := (mLoad E s (cStatus E E.me)).2) rfl hm]
  obtain ⟨h2, ig, h3⟩ := mGate_le E (loopFuel E (mLoad E s (cStatus E E.me)).2) (mLoad E s (cStatus E E.me)).2 x h1.ls.pos
  obtain ⟨h4, h5⟩ := mGated_le E (mGate E (loopFuel E (mLoad E s (cStatus E E.me)).2) (mLoad E s (cStatus E E.me)).2 x).1 (mGate E (loopFuel E (mLoad E s (cStatus E E.me)).2) (mLoad E s (cStatus E E.me)).2 x).2 (h1.trans h2).ls.pos
  exact ⟨(h1.trans h2).trans h4, ig, by rw [h5, h3]⟩
theorem mWait_le (E : Env) (win : Int) : ∀ (n : Nat) (s : LS), s.pos ≤ E.seen.length → LeOk E s (mWait E win n s)
 | 0, s, h => LeOk.refl h
 | n + 1, s, h => by
  have h1 : LeOk E s (mLoad E s (cStatus E win)).2 := mAsk_le E s _ h
  unfold mWait
  split
  ·exact LeOk.refl h
  ·dsimp only
   split
   ·exact h1
   ·exact h1.trans (mWait_le E win n _ h1.ls.pos)
theorem mNones_le (E : Env) : ∀ (n : Nat) (s : LS), s.pos ≤ E.seen.length → LeOk E s (mNones E n s)
 | 0, s, h => LeOk.refl h
 | n + 1, s, h => (mAsk_le E s _ h).trans (mNones_le E n _ (mAsk_le E s ⟨0, 0, 0, 0⟩ h).ls.pos)
theorem mRest_le (E : Env) (draw : Int) (s : LS) (h : s.pos ≤ E.seen.length) : LeOk E s (mRest E draw s) := by
 unfold mRest
 dsimp only
 split
 ·exact mNones_le E _ s h
 ·exact LeOk.refl h
theorem mEnded_sn (E : Env) (s : LS) (f : Int) : SN s (mEnded E s f) := SN.modLast (f := fun a => { a with fin := E.whens.getD (s.pos - 1) 0, fate := f }) (fun _ => rfl) rfl
structure LifeOk (E : Env) (s : LS) : Prop where
 pos : s.pos ≤ E.seen.length
 len : s.list.length ≤ s.pos
 nt : ∀ a ∈ s.list, a.notes.length ≤ 64 * s.pos
 r0 : 0 ≤ s.rank
 r1 : s.rank ≤ 1125899906842625
 f0 : 0 ≤ s.fails
 f1 : s.fails ≤ s.pos
 ends : s.ends.length = E.jobs.length
end Go.Proofs.YtejadojilncbjaaGreat
