import Derived.Test.YtejadojilncbjaaGreatG02
import Derived.Test.YtejadojilncbjaaGreatG01
import Derived.Deep.RegionHeld3
import Derived.Deep.AppendLies
import Derived.Deep.DrawnRows
import Derived.WalkSmall
namespace Go.Proofs.YtejadojilncbjaaGreat
set_option linter.unusedVariables false
theorem gate_sim {E : Env} {p : Nat} {F : Th} {x : TS} {j : Nat} : ∀ (n : Nat) (s : LS) (h : Th), E.seen.length - s.pos < n → x.inGate = false → Eqs E p s x j h → h.st = .cGate → Runs E F s.pos h →
  Over E F (mGate E n s x).1 ∨ ((mGate E n s x).2 = { x with inGate := true } ∧ ∃ h', Eqs E p (mGate E n s x).1 { x with inGate := true } j h' ∧ h'.st = .cClock ∧ Runs E F (mGate E n s x).1.pos h')
 | 0, s, h, hn, hg, A, hs, R => absurd hn (Nat.not_lt_zero _)
 | n + 1, s, h, hn, hg, A, hs, R => by
  unfold mGate
  rw [if_neg (by rw [A.over, hg]; simp)]
  simp only
  rcases A.ask R (q := ⟨3, 2, 0, E.me + 1⟩) (by simp [hOut, hs]; rfl) with ⟨s1, eq, o, O⟩ | ⟨s1, eq, o, hlt, hp, A1, R1⟩
  ·rw [eq]
   left
   cases n
   ·exact O
   ·unfold mGate
    rw [if_pos (Or.inl o)]
    exact O
  ·rw [eq]
   by_cases h1 : (ansAt E s.pos).seen = 0
   ·right
    have hb : ((ansAt E s.pos).seen == 0) = true := by simp [h1]
    have hn1 : hNext E.cx h (ansAt E s.pos) = { h with x := { x with inGate := true }, st := .cClock } := by
     simp only [hNext, hs, A.x, hb, if_pos h1]
    rw [hn1] at R1
    have e : mGate E n s1 { x with inGate := true } = (s1, { x with inGate := true }) := by
     cases n
     ·rfl
     ·unfold mGate; rw [if_pos (Or.inr rfl)]
    simp only [hb]
    rw [e]
    exact ⟨rfl, { h with x := { x with inGate := true }, st := .cClock }, ⟨A1.over, A1.pos, A1.lo, A1.rank, A1.fails, A1.list, A1.ends, rfl, A1.job⟩, rfl, R1⟩
   ·have hb : ((ansAt E s.pos).seen == 0) = false := by simp [h1]
    have hx : ({ x with inGate := false } : TS) = x := by rw [← hg]
    have hn1 : hNext E.cx h (ansAt E s.pos) = { h with x := x, st := .cGate } := by
     simp only [hNext, hs, A.x, hb, if_neg h1, hx]
    rw [hn1] at R1
    simp only [hb, hx]
    exact gate_sim n s1 { h with x := x, st := .cGate } (by omega) hg ⟨A1.over, A1.pos, A1.lo, A1.rank, A1.fails, A1.list, A1.ends, rfl, A1.job⟩ rfl R1
theorem stillC_sim {E : Env} {p : Nat} {F : Th} {x : TS} {j : Nat} {c : Int} : ∀ (r : List EntD) (s : LS) (h : Th), Eqs E p s x j h → Runs E F s.pos (hStillAt c r h) →
  (Over E F (mStill E x true r s).2 ∧ (mStill E x true r s).1 = -1) ∨ ((mStill E x true r s).1 = 5 ∧ ∃ h', Eqs E p (mStill E x true r s).2 x j h' ∧ Runs E F (mStill E x true r s).2.pos (hFail E.cx h')) ∨
   ((mStill E x true r s).1 = 0 ∧ ∃ h', Eqs E p (mStill E x true r s).2 x j h' ∧ Runs E F (mStill E x true r s).2.pos (hShutAt c x.held h'))
 | [], s, h, A, R => Or.inr (Or.inr ⟨rfl, h, A, by
         have e : hStillAt c [] h = hShutAt c h.x.held h := rfl
         rw [e, A.x] at R
         exact R⟩)
 | e :: r, s, h, A, R => by
  unfold mStill
  unfold hStillAt at R
  rw [A.x] at R
  simp only [Bool.true_and]
  by_cases hh : heldB x e.what = true
  ·rw [if_pos hh] at R ⊢
   exact stillC_sim r s h A R
  ·rw [if_neg hh] at R ⊢
   obtain rfl := A.x
   rcases (A.st (.cVer c (e :: r))).ask R (q := ⟨1, cVersion E e.what, 0, 0⟩) rfl with ⟨s1, eq, o, O⟩ | ⟨s1, eq, o, hlt, hp, A', R'⟩
   ·rw [show mLoad E s (cVersion E e.what) = _ from eq]
    simp only [o, if_true]
    exact Or.inl ⟨O, by first | rfl | trivial⟩
   ·rw [show mLoad E s (cVersion E e.what) = _ from eq]
    simp only [o, Bool.false_eq_true, if_false]
    by_cases hv : (ansAt E s.pos).seen ≠ e.val
    ·rw [if_pos hv]
     refine Or.inr (Or.inl ⟨rfl, _, A', ?_⟩)
     have : hNext E.cx { h with st := .cVer c (e :: r) } (ansAt E s.pos) = hFail E.cx { h with st := .cVer c (e :: r) } := if_pos hv
     rw [this] at R'
     exact R'
    ·rw [if_neg hv]
     have : hNext E.cx { h with st := .cVer c (e :: r) } (ansAt E s.pos) = hStillAt c r { h with st := .cVer c (e :: r) } := if_neg hv
     rw [this] at R'
     exact stillC_sim r _ _ A' R'
theorem shut_sim {E : Env} {p : Nat} {F : Th} {x : TS} {j : Nat} {c : Int} : ∀ (r : List Int) (s : LS) (h : Th), Eqs E p s x j h → Runs E F s.pos (hShutAt c r h) →
  Over E F (r.foldl (fun s q => (mStore E s (cVersion E q) (-1)).2) s) ∨ ∃ h', Eqs E p (r.foldl (fun s q => (mStore E s (cVersion E q) (-1)).2) s) x j h' ∧ h'.st = .cStamp c ∧ Runs E F (r.foldl (fun s q => (mStore E s (cVersion E q) (-1)).2) s).pos h'
 | [], s, h, A, R => Or.inr ⟨_, A.st (.cStamp c), rfl, R⟩
 | q :: r, s, h, A, R => by
  rw [List.foldl_cons]
  rcases (A.st (.cShut c (q :: r))).ask R (q := ⟨2, cVersion E q, 0, -1⟩) rfl with ⟨s1, eq, o, O⟩ | ⟨s1, eq, o, hlt, hp, A', R'⟩
  ·left
   rw [show mStore E s (cVersion E q) (-1) = _ from eq]
   rw [foldl_over (fun s q h => by rw [mStore_over h]) _ _ o]
   exact O
  ·rw [show mStore E s (cVersion E q) (-1) = _ from eq]
   exact shut_sim r _ _ A' R'
theorem word_sim {E : Env} {p : Nat} {F : Th} {x : TS} {j : Nat} {c : Int} : ∀ (r : List EntD) (s : LS) (h : Th), Eqs E p s x j h → Runs E F s.pos (hWordAt c r h) →
  Over E F (r.foldl (fun s e => (mStore E s (cWord E e.what) e.val).2) s) ∨ ∃ h', Eqs E p (r.foldl (fun s e => (mStore E s (cWord E e.what) e.val).2) s) x j h' ∧ Runs E F (r.foldl (fun s e => (mStore E s (cWord E e.what) e.val).2) s).pos (hOpenAt c x.held h')
 | [], s, h, A, R => Or.inr ⟨h, A, by
      have e : hWordAt c [] h = hOpenAt c h.x.held h := rfl
      rw [e, A.x] at R
      exact R⟩
 | q :: r, s, h, A, R => by
  rw [List.foldl_cons]
  rcases (A.st (.cWord c (q :: r))).ask R (q := ⟨2, cWord E q.what, 0, q.val⟩) rfl with ⟨s1, eq, o, O⟩ | ⟨s1, eq, o, hlt, hp, A', R'⟩
  ·left
   rw [show mStore E s (cWord E q.what) q.val = _ from eq]
   rw [foldl_over (fun s q h => by rw [mStore_over h]) _ _ o]
   exact O
  ·rw [show mStore E s (cWord E q.what) q.val = _ from eq]
   exact word_sim r _ _ A' R'
theorem open_sim {E : Env} {p : Nat} {F : Th} {x : TS} {j : Nat} {c : Int} : ∀ (r : List Int) (s : LS) (h : Th), Eqs E p s x j h → Runs E F s.pos (hOpenAt c r h) →
  Over E F (r.foldl (fun s q => (mStore E (mStore E s (cVersion E q) (c + 1)).2 (cOwner E q) 0).2) s) ∨ ∃ h', Eqs E p (r.foldl (fun s q => (mStore E (mStore E s (cVersion E q) (c + 1)).2 (cOwner E q) 0).2) s) x j h' ∧ h'.st = .fin 1 ∧ Runs E F (r.foldl (fun s q => (mStore E (mStore E s (cVersion E q) (c + 1)).2 (cOwner E q) 0).2) s).pos h'
 | [], s, h, A, R => Or.inr ⟨_, A.st (.fin 1), rfl, R⟩
 | q :: r, s, h, A, R => by
  rw [List.foldl_cons]
  rcases (A.st (.cOpen c (q :: r))).ask R (q := ⟨2, cVersion E q, 0, c + 1⟩) rfl with ⟨s1, eq, o, O⟩ | ⟨s1, eq, o, hlt, hp, A', R'⟩
  ·left
   rw [show mStore E s (cVersion E q) (c + 1) = _ from eq]
   simp only [mStore_over o]
   rw [foldl_over (fun s q h => by rw [mStore_over h, mStore_over h]) _ _ o]
   exact O
  ·rw [show mStore E s (cVersion E q) (c + 1) = _ from eq]
   rcases (A'.st (.cOwn c (q :: r))).ask R' (q := ⟨2, cOwner E q, 0, 0⟩) rfl with ⟨s2, eq2, o2, O⟩ | ⟨s2, eq2, o2, hlt2, hp2, A2, R2⟩
   ·left
    rw [show mStore E s1 (cOwner E q) 0 = _ from eq2]
    rw [foldl_over (fun s q h => by rw [mStore_over h, mStore_over h]) _ _ o2]
    exact O
   ·rw [show mStore E s1 (cOwner E q) 0 = _ from eq2]
    exact open_sim r _ _ A2 R2
theorem Over.list_same {E : Env} {F : Th} {s s' : LS} (O : Over E F s) (h1 : s'.over = s.over) (h2 : s'.next = s.next) (h3 : s'.list = s.list) (h4 : s'.ends = s.ends) : Over E F s' := ⟨h1.trans O.over, h2.trans O.next, h3.trans O.list, h4.trans O.ends⟩
theorem loopFuel_succ (E : Env) (s : LS) : ∃ n, loopFuel E s = n + 1 := ⟨E.seen.length - s.pos + 1, rfl⟩
theorem commit_sim {E : Env} {p : Nat} {F : Th} {x : TS} {j : Nat} {s : LS} {h : Th} (A : Eqs E p s x j h) (hg : x.inGate = false) (hs : h.st = .cStat) (R : Runs E F s.pos h) :
  let t := mCommit E s x
  (Over E F t.2.1 ∧ (t.1 = -1 ∨ t.1 = 1)) ∨ (t.1 = 5 ∧ ∃ h', Eqs E p t.2.1 t.2.2 j h' ∧ Runs E F t.2.1.pos (hFail E.cx h')) ∨ (t.1 = 1 ∧ ∃ h', Eqs E p t.2.1 t.2.2 j h' ∧ h'.st = .fin 1 ∧ Runs E F t.2.1.pos h') := by
 intro t
 have ht : t = mCommit E s x := rfl
 unfold mCommit at ht
 rcases A.ask R (q := ⟨1, cStatus E E.me, 0, 0⟩) (by simp [hOut, hs]; rfl) with ⟨s1, eq, o, O⟩ | ⟨s1, eq, o, hlt, hp, A1, R1⟩
 ·rw [show mLoad E s (cStatus E E.me) = _ from eq] at ht
  obtain ⟨n, hn⟩ := loopFuel_succ E s1
  have eg : mGate E (loopFuel E s1) s1 x = (s1, x) := by rw [hn]; unfold mGate; rw [if_pos (Or.inl o)]
  simp only [o, eg, mLoad_over o] at ht
  rw [if_neg (by simp), if_pos trivial] at ht
  rw [ht]
  exact Or.inl ⟨O, Or.inl rfl⟩
 rw [show mLoad E s (cStatus E E.me) = _ from eq] at ht
 simp only [o, true_and] at ht
 by_cases h1 : 0 < (ansAt E s.pos).seen.tmod 8
 ·rw [if_pos h1] at ht
  have hn1 : hNext E.cx h (ansAt E s.pos) = hFail E.cx h := by simp only [hNext, hs]; rw [if_pos h1]
  rw [hn1] at R1
  rw [ht]
  exact Or.inr (Or.inl ⟨rfl, h, A1, R1⟩)
 rw [if_neg h1] at ht
 have hn1 : hNext E.cx h (ansAt E s.pos) = { h with st := .cGate } := by simp only [hNext, hs]; rw [if_neg h1]
 rw [hn1] at R1
 rcases gate_sim (loopFuel E s1) s1 _ (fuel_lt E s1) hg (A1.st .cGate) rfl R1 with O | ⟨ex, h2, A2, hs2, R2⟩
 ·generalize mGate E (loopFuel E s1) s1 x = g at *
  rw [mLoad_over O.over] at ht
  simp only [O.over] at ht
  rw [if_pos trivial] at ht
  rw [ht]
  exact Or.inl ⟨O, Or.inl rfl⟩
 generalize mGate E (loopFuel E s1) s1 x = g at *
 obtain ⟨s2, x2⟩ := g
 simp only at ht ex A2 R2
 subst ex
 generalize ({ x with inGate := true } : TS) = x2 at *
 rcases A2.ask R2 (q := ⟨1, 0, 0, 0⟩) (by simp [hOut, hs2]) with ⟨s3, eq3, o3, O⟩ | ⟨s3, eq3, o3, hlt3, hp3, A3, R3⟩
 ·rw [show mLoad E s2 0 = _ from eq3] at ht
  simp only [o3] at ht
  rw [if_pos trivial] at ht
  rw [ht]
  exact Or.inl ⟨O, Or.inl rfl⟩
 rw [show mLoad E s2 0 = _ from eq3] at ht
 simp only [o3, Bool.false_eq_true, if_false] at ht
 generalize (ansAt E s2.pos) = an at *
 -- the read log
 have hstill : (Over E F (if an.seen ≠ x2.valid then mStill E x2 true x2.reads s3 else (0, s3)).2 ∧ (if an.seen ≠ x2.valid then mStill E x2 true x2.reads s3 else (0, s3)).1 = -1) ∨
   ((if an.seen ≠ x2.valid then mStill E x2 true x2.reads s3 else (0, s3)).1 = 5 ∧ ∃ h', Eqs E p (if an.seen ≠ x2.valid then mStill E x2 true x2.reads s3 else (0, s3)).2 x2 j h' ∧ Runs E F (if an.seen ≠ x2.valid then mStill E x2 true x2.reads s3 else (0, s3)).2.pos (hFail E.cx h')) ∨
   ((if an.seen ≠ x2.valid then mStill E x2 true x2.reads s3 else (0, s3)).1 = 0 ∧ ∃ h', Eqs E p (if an.seen ≠ x2.valid then mStill E x2 true x2.reads s3 else (0, s3)).2 x2 j h' ∧ Runs E F (if an.seen ≠ x2.valid then mStill E x2 true x2.reads s3 else (0, s3)).2.pos (hShutAt an.seen x2.held h')) := by
  have hn3 : hNext E.cx h2 an = if an.seen ≠ x2.valid then hStillAt an.seen x2.reads h2 else hShutAt an.seen x2.held h2 := by simp only [hNext, hs2, A2.x]
  rw [hn3] at R3
  by_cases hv : an.seen ≠ x2.valid
  ·rw [if_pos hv] at R3 ⊢
   exact stillC_sim x2.reads s3 h2 A3 R3
  ·rw [if_neg hv] at R3 ⊢
   exact Or.inr (Or.inr ⟨rfl, h2, A3, R3⟩)
 generalize (if an.seen ≠ x2.valid then mStill E x2 true x2.reads s3 else (0, s3)) = t4 at *
 rcases hstill with ⟨O, e⟩ | ⟨e, h4, A4, R4⟩ | ⟨e, h4, A4, R4⟩
 ·rw [if_pos (by rw [e]; decide)] at ht
  rw [ht]
  exact Or.inl ⟨O, Or.inl e⟩
 ·rw [if_pos (by rw [e]; decide)] at ht
  rw [ht]
  exact Or.inr (Or.inl ⟨e, h4, A4, R4⟩)
 rw [if_neg (by rw [e]; decide)] at ht
 rcases shut_sim x2.held _ _ A4 R4 with O | ⟨h5, A5, hs5, R5⟩
 ·generalize (x2.held.foldl (fun s q => (mStore E s (cVersion E q) (-1)).2) t4.2) = s5 at *
  rw [mStore_over O.over] at ht
  simp only [O.over] at ht
  rw [if_pos trivial] at ht
  rw [ht]
  exact Or.inl ⟨O, Or.inl rfl⟩
 generalize (x2.held.foldl (fun s q => (mStore E s (cVersion E q) (-1)).2) t4.2) = s5 at *
 rcases A5.ask R5 (q := ⟨2, 0, 0, an.seen + 1⟩) (by simp [hOut, hs5]) with ⟨s6, eq6, o6, O⟩ | ⟨s6, eq6, o6, hlt6, hp6, A6, R6⟩
 ·rw [show mStore E s5 0 (an.seen + 1) = _ from eq6] at ht
  simp only [o6] at ht
  rw [if_pos trivial] at ht
  rw [ht]
  exact Or.inl ⟨O, Or.inl rfl⟩
 rw [show mStore E s5 0 (an.seen + 1) = _ from eq6] at ht
 rw [if_neg (by rw [o6]; decide)] at ht
 have hn6 : hNext E.cx h5 (ansAt E s5.pos) = { h5 with list := modLast h5.list (fun t => { t with stamp := an.seen + 1 }), st := .cLeave an.seen } := by simp only [hNext, hs5]
 rw [hn6] at R6
 have A7 : Eqs E p { s6 with list := modLast s6.list fun a => { a with stamp := an.seen + 1 } } x2 j { h5 with list := modLast h5.list (fun t => { t with stamp := an.seen + 1 }), st := .cLeave an.seen } :=
  ⟨A6.over, A6.pos, A6.lo, A6.rank, A6.fails, by show modLast h5.list _ = modLast s6.list _; rw [A6.list], A6.ends, A6.x, A6.job⟩
 have R7 : Runs E F ({ s6 with list := modLast s6.list fun a => { a with stamp := an.seen + 1 } } : LS).pos { h5 with list := modLast h5.list (fun t => { t with stamp := an.seen + 1 }), st := .cLeave an.seen } := R6
 generalize hs7 : ({ s6 with list := modLast s6.list fun a => { a with stamp := an.seen + 1 } } : LS) = s7 at *
 generalize hh7 : ({ h5 with list := modLast h5.list (fun t => { t with stamp := an.seen + 1 }), st := .cLeave an.seen } : Th) = h7 at *
 have hs7' : h7.st = .cLeave an.seen := by rw [← hh7]
 rcases A7.ask R7 (q := ⟨2, 2, 0, 0⟩) (by simp [hOut, hs7']) with ⟨s8, eq8, o8, O⟩ | ⟨s8, eq8, o8, hlt8, hp8, A8, R8⟩
 ·rw [show mStore E s7 2 0 = _ from eq8] at ht
  simp only at ht
  rw [foldl_over (fun s q h => by rw [mStore_over h]) _ _ o8, foldl_over (fun s q h => by rw [mStore_over h, mStore_over h]) _ _ o8] at ht
  rw [ht]
  exact Or.inl ⟨O, Or.inr rfl⟩
 rw [show mStore E s7 2 0 = _ from eq8] at ht
 simp only at ht
 have hn8 : hNext E.cx h7 (ansAt E s7.pos) = hWordAt an.seen x2.writes h7 := by simp only [hNext, hs7', A7.x]
 rw [hn8] at R8
 rcases word_sim x2.writes _ _ A8 R8 with O | ⟨h9, A9, R9⟩
 ·rw [foldl_over (fun s q h => by rw [mStore_over h, mStore_over h]) _ _ O.over] at ht
  rw [ht]
  exact Or.inl ⟨O, Or.inr rfl⟩
 rcases open_sim x2.held _ _ A9 R9 with O | ⟨h10, A10, hs10, R10⟩
 ·rw [ht]
  exact Or.inl ⟨O, Or.inr rfl⟩
 ·rw [ht]
  exact Or.inr (Or.inr ⟨rfl, h10, A10, hs10, R10⟩)
theorem failown_sim {E : Env} {p : Nat} {F : Th} {x : TS} {j : Nat} : ∀ (r : List Int) (s : LS) (h : Th), Eqs E p s x j h → Runs E F s.pos (hFailOwn E.cx r h) →
  Over E F (r.foldl (fun s q => (mStore E s (cOwner E q) 0).2) s) ∨ ∃ h', Eqs E p (r.foldl (fun s q => (mStore E s (cOwner E q) 0).2) s) x j h' ∧ Runs E F (r.foldl (fun s q => (mStore E s (cOwner E q) 0).2) s).pos (hCount E.cx h')
 | [], s, h, A, R => Or.inr ⟨h, A, R⟩
 | q :: r, s, h, A, R => by
  rw [List.foldl_cons]
  rcases (A.st (.fOwn (q :: r))).ask R (q := ⟨2, cOwner E q, 0, 0⟩) rfl with ⟨s1, eq, o, O⟩ | ⟨s1, eq, o, hlt, hp, A', R'⟩
  ·left
   rw [show mStore E s (cOwner E q) 0 = _ from eq]
   rw [foldl_over (fun s q h => by rw [mStore_over h]) _ _ o]
   exact O
  ·rw [show mStore E s (cOwner E q) 0 = _ from eq]
   exact failown_sim r _ _ A' R'
theorem wait_sim {E : Env} {p : Nat} {F : Th} {x : TS} {j : Nat} {win : Int} : ∀ (n : Nat) (s : LS) (h : Th), E.seen.length - s.pos < n → Eqs E p s x j h → h.st = .wait win → Runs E F s.pos h →
  Over E F (mWait E win n s) ∨ ∃ h', Eqs E p (mWait E win n s) x j h' ∧ h'.st = .start ∧ Runs E F (mWait E win n s).pos h'
 | 0, s, h, hn, A, hs, R => absurd hn (Nat.not_lt_zero _)
 | n + 1, s, h, hn, A, hs, R => by
  unfold mWait
  rw [if_neg (by rw [A.over]; decide)]
  simp only
  rcases A.ask R (q := ⟨1, cStatus E win, 0, 0⟩) (by simp [hOut, hs]; rfl) with ⟨s1, eq, o, O⟩ | ⟨s1, eq, o, hlt, hp, A1, R1⟩
  ·rw [show mLoad E s (cStatus E win) = _ from eq]
   left
   rw [if_pos (Or.inl (show (0 : Int).tdiv 8 = 0 from by decide))]
   exact O
  ·rw [show mLoad E s (cStatus E win) = _ from eq]
   have hr : h.rank = s1.rank := A1.rank
   by_cases h1 : (ansAt E s.pos).seen.tdiv 8 = 0 ∨ (0 < s1.rank ∧ s1.rank < (ansAt E s.pos).seen.tdiv 8)
   ·rw [if_pos h1]
    have hn1 : hNext E.cx h (ansAt E s.pos) = { h with st := .start } := by
     simp only [hNext, hs]
     rw [hr, if_pos h1, ← hr]
    rw [hn1] at R1
    exact Or.inr ⟨_, A1.st .start, rfl, R1⟩
   ·rw [if_neg h1]
    have hn1 : hNext E.cx h (ansAt E s.pos) = h := by
     simp only [hNext, hs]
     rw [hr, if_neg h1]
    rw [hn1] at R1
    exact wait_sim n s1 h (by omega) A1 hs R1
theorem mNones_over {E : Env} : ∀ (n : Nat) (s : LS), s.over = true → mNones E n s = s
 | 0, s, _ => rfl
 | n + 1, s, h => by unfold mNones; rw [mAsk_over h]; exact mNones_over n s h
theorem nones_sim {E : Env} {p : Nat} {F : Th} {x : TS} {j : Nat} : ∀ (n : Nat) (s : LS) (h : Th), Eqs E p s x j h → h.st = .rest (n + 1) → Runs E F s.pos h →
  Over E F (mNones E (n + 1) s) ∨ ∃ h', Eqs E p (mNones E (n + 1) s) x j h' ∧ h'.st = .start ∧ Runs E F (mNones E (n + 1) s).pos h'
 | n, s, h, A, hs, R => by
  unfold mNones
  rcases A.ask R (q := ⟨0, 0, 0, 0⟩) (by simp [hOut, hs]) with ⟨s1, eq, o, O⟩ | ⟨s1, eq, o, hlt, hp, A1, R1⟩
  ·rw [eq]
   left
   rw [mNones_over _ _ o]
   exact O
  ·rw [eq]
   cases n with
   | zero =>
    have hn1 : hNext E.cx h (ansAt E s.pos) = { h with st := .start } := by simp only [hNext, hs]; rfl
    rw [hn1] at R1
    exact Or.inr ⟨_, A1.st .start, rfl, R1⟩
   | succ n =>
    have hn1 : hNext E.cx h (ansAt E s.pos) = { h with st := .rest (n + 1) } := by
     simp only [hNext, hs]
     rw [if_neg (by omega)]
     rfl
    rw [hn1] at R1
    exact nones_sim n s1 _ (A1.st _) rfl R1
theorem Eqs.ended {E : Env} {p : Nat} {s : LS} {x : TS} {j : Nat} {h : Th} (A : Eqs E p s x j h) (fate num : Int) (hn : num = E.whens.getD (s.pos - 1) 0) : Eqs E p (mEnded E s fate) x j (h.ended num fate) :=
 ⟨A.over, A.pos, A.lo, A.rank, A.fails, by show modLast h.list _ = modLast s.list _; rw [A.list, hn], A.ends, A.x, A.job⟩
theorem fail_sim {E : Env} {p : Nat} {F : Th} {x : TS} {j : Nat} {s : LS} {h : Th} (A : Eqs E p s x j h) (R : Runs E F s.pos (hFail E.cx h)) :
  let t := mFail E s x
  (Over E F t.2 ∧ t.1 = -1) ∨ (t.1 = 5 ∧ ∃ h', Eqs E p t.2 x j h' ∧ h'.st = .start ∧ Runs E F t.2.pos h') := by
 intro t
 have ht : t = mFail E s x := rfl
 unfold mFail at ht
 -- the gate
 have hgate : Over E F (if x.inGate then (mStore E s 2 0).2 else s) ∨ ∃ h', Eqs E p (if x.inGate then (mStore E s 2 0).2 else s) x j h' ∧ Runs E F (if x.inGate then (mStore E s 2 0).2 else s).pos (hFailOwn E.cx x.held h') := by
  unfold hFail at R
  rw [A.x] at R
  by_cases hg : x.inGate = true
  ·rw [if_pos hg] at R ⊢
   obtain rfl := A.x
   rcases (A.st .fGate).ask R (q := ⟨2, 2, 0, 0⟩) rfl with ⟨s1, eq, o, O⟩ | ⟨s1, eq, o, hlt, hp, A1, R1⟩
   ·rw [show mStore E s 2 0 = _ from eq]
    exact Or.inl O
   ·rw [show mStore E s 2 0 = _ from eq]
    exact Or.inr ⟨_, A1, R1⟩
  ·rw [if_neg hg] at R ⊢
   exact Or.inr ⟨h, A, R⟩
 generalize (if x.inGate then (mStore E s 2 0).2 else s) = s1 at *
 have hown : Over E F (mFree E x s1) ∨ ∃ h', Eqs E p (mFree E x s1) x j h' ∧ Runs E F (mFree E x s1).pos (hCount E.cx h') := by
  rcases hgate with O | ⟨h1, A1, R1⟩
  ·left
   unfold mFree
   rw [foldl_over (fun s q h => by rw [mStore_over h]) _ _ O.over]
   exact O
  ·exact failown_sim x.held s1 h1 A1 R1
 simp only at ht
 generalize mFree E x s1 = s2 at *
 rcases hown with O | ⟨h2, A2, R2⟩
 ·rw [if_pos O.over] at ht
  rw [ht]
  exact Or.inl ⟨O, rfl⟩
 rw [if_neg (by rw [A2.over]; decide)] at ht
 -- the ticket
 have htick : Over E F (if s2.rank = 0 ∧ E.c.r < s2.fails + 1 then (let q := mAsk E { s2 with fails := s2.fails + 1 } ⟨4, 1, 0, 0⟩; { q.2 with rank := q.1 + 1 }) else { s2 with fails := s2.fails + 1 }) ∨
   ∃ h', Eqs E p (if s2.rank = 0 ∧ E.c.r < s2.fails + 1 then (let q := mAsk E { s2 with fails := s2.fails + 1 } ⟨4, 1, 0, 0⟩; { q.2 with rank := q.1 + 1 }) else { s2 with fails := s2.fails + 1 }) x j h' ∧ h'.st = .fStat ∧
    Runs E F (if s2.rank = 0 ∧ E.c.r < s2.fails + 1 then (let q := mAsk E { s2 with fails := s2.fails + 1 } ⟨4, 1, 0, 0⟩; { q.2 with rank := q.1 + 1 }) else { s2 with fails := s2.fails + 1 }).pos h' := by
  unfold hCount at R2
  rw [A2.rank, A2.fails] at R2
  by_cases hc : s2.rank = 0 ∧ E.c.r < s2.fails + 1
  ·have hc' : s2.rank = 0 ∧ E.cx.c.r < s2.fails + 1 := hc
   rw [if_pos hc'] at R2
   rw [if_pos hc]
   have A3 : Eqs E p { s2 with fails := s2.fails + 1 } x j { h2 with rank := s2.rank, fails := s2.fails + 1, st := .fTake } := ⟨A2.over, A2.pos, A2.lo, rfl, rfl, A2.list, A2.ends, A2.x, A2.job⟩
   rcases A3.ask R2 (q := ⟨4, 1, 0, 0⟩) rfl with ⟨s3, eq, o, O⟩ | ⟨s3, eq, o, hlt, hp, A4, R4⟩
   ·simp only [eq]
    exact Or.inl (O.list_same rfl rfl rfl rfl)
   ·simp only [eq]
    exact Or.inr ⟨{ h2 with rank := (ansAt E s2.pos).seen + 1, fails := s2.fails + 1, st := .fStat }, ⟨A4.over, A4.pos, A4.lo, rfl, A4.fails, A4.list, A4.ends, A4.x, A4.job⟩, rfl, R4⟩
  ·have hc' : ¬ (s2.rank = 0 ∧ E.cx.c.r < s2.fails + 1) := hc
   rw [if_neg hc'] at R2
   rw [if_neg hc]
   exact Or.inr ⟨{ h2 with rank := s2.rank, fails := s2.fails + 1, st := .fStat }, ⟨A2.over, A2.pos, A2.lo, rfl, rfl, A2.list, A2.ends, A2.x, A2.job⟩, rfl, R2⟩
 generalize (if s2.rank = 0 ∧ E.c.r < s2.fails + 1 then (let q := mAsk E { s2 with fails := s2.fails + 1 } ⟨4, 1, 0, 0⟩; { q.2 with rank := q.1 + 1 }) else { s2 with fails := s2.fails + 1 }) = s4 at *
 rcases htick with O | ⟨h4, A4, hs4, R4⟩
 ·rw [mStore_over O.over, if_pos O.over] at ht
  rw [ht]
  exact Or.inl ⟨O, rfl⟩
 rcases A4.ask R4 (q := ⟨2, cStatus E E.me, 0, 8 * s4.rank⟩) (by simp only [hOut, hs4, A4.rank]; rfl) with ⟨s5, eq, o, O⟩ | ⟨s5, eq, o, hlt, hp, A5, R5⟩
 ·rw [show mStore E s4 (cStatus E E.me) (8 * s4.rank) = _ from eq, if_pos o] at ht
  rw [ht]
  exact Or.inl ⟨O, rfl⟩
 rw [show mStore E s4 (cStatus E E.me) (8 * s4.rank) = _ from eq, if_neg (by rw [o]; decide)] at ht
 simp only at ht
 have hwn : (ansAt E s4.pos).num = E.whens.getD (s5.pos - 1) 0 := by rw [hp]; rfl
 have hdr : (ansAt E s4.pos).draw = E.draws.getD (s5.pos - 1) 0 := by rw [hp]; rfl
 have A6 := A5.ended 5 _ hwn
 have hn5 : hNext E.cx h4 (ansAt E s4.pos) = if 0 ≤ (if 0 < (ansAt E s4.pos).seen.tmod 8 then (ansAt E s4.pos).seen.tmod 8 - 1 else x.way) then { h4.ended (ansAt E s4.pos).num 5 with st := .wait (if 0 < (ansAt E s4.pos).seen.tmod 8 then (ansAt E s4.pos).seen.tmod 8 - 1 else x.way) } else hRest E.cx (ansAt E s4.pos).draw (h4.ended (ansAt E s4.pos).num 5) := by
  simp only [hNext, hs4, A4.x]
 rw [hn5] at R5
 have e6 : (mEnded E s5 5).pos = s5.pos := rfl
 rw [e6, ← hdr] at ht
 generalize (if 0 < (ansAt E s4.pos).seen.tmod 8 then (ansAt E s4.pos).seen.tmod 8 - 1 else x.way) = win at *
 generalize h4.ended (ansAt E s4.pos).num 5 = h6 at *
 have R6 : Runs E F (mEnded E s5 5).pos (if 0 ≤ win then { h6 with st := .wait win } else hRest E.cx (ansAt E s4.pos).draw h6) := R5
 generalize mEnded E s5 5 = s6 at *
 generalize (ansAt E s4.pos).draw = draw at *
 have hend : Over E F (if 0 ≤ win then mWait E win (loopFuel E s6) s6 else mRest E draw s6) ∨ ∃ h', Eqs E p (if 0 ≤ win then mWait E win (loopFuel E s6) s6 else mRest E draw s6) x j h' ∧ h'.st = .start ∧ Runs E F (if 0 ≤ win then mWait E win (loopFuel E s6) s6 else mRest E draw s6).pos h' := by
  by_cases hw : 0 ≤ win
  ·rw [if_pos hw] at R6 ⊢
   exact wait_sim _ _ _ (fuel_lt E s6) (A6.st (.wait win)) rfl R6
  ·rw [if_neg hw] at R6 ⊢
   unfold mRest
   unfold hRest at R6
   have ec : E.cx.c.cp = E.c.cp := rfl
   rw [ec] at R6
   rw [← A6.fails]
   simp only at R6 ⊢
   generalize (if h6.fails < E.c.cp then h6.fails else E.c.cp) = m at *
   by_cases hd : 0 < draw
   ·rw [if_pos hd]
    cases hk : (draw.tmod (m + 1)).toNat with
    | zero =>
     rw [hk] at R6
     rw [if_neg (by simp)] at R6
     exact Or.inr ⟨_, A6.st .start, rfl, R6⟩
    | succ k =>
     rw [hk] at R6
     rw [if_pos ⟨hd, by simp⟩] at R6
     exact nones_sim k s6 _ (A6.st (.rest (k + 1))) rfl R6
   ·rw [if_neg hd]
    rw [if_neg (fun h => hd h.1)] at R6
    exact Or.inr ⟨_, A6.st .start, rfl, R6⟩
 generalize (if 0 ≤ win then mWait E win (loopFuel E s6) s6 else mRest E draw s6) = s7 at *
 rcases hend with O | ⟨h7, A7, hs7, R7⟩
 ·rw [if_pos O.over] at ht
  rw [ht]
  exact Or.inl ⟨O, rfl⟩
 ·rw [if_neg (by rw [A7.over]; decide)] at ht
  rw [ht]
  exact Or.inr ⟨rfl, h7, A7, hs7, R7⟩
theorem close_sim {E : Env} {p : Nat} {F : Th} {x : TS} {j : Nat} {s : LS} {h : Th} {e : Int} (he : e = 1 ∨ e = 2 ∨ e = 3 ∨ e = 4) (A : Eqs E p s x j h) (hg : x.inGate = false) (R : Runs E F s.pos (hClose e h)) :
  let u := mClose E e s x
  (Over E F u.2.1 ∧ u.1 ≠ 5) ∨ (u.1 = 5 ∧ ∃ h', Eqs E p u.2.1 u.2.2 j h' ∧ Runs E F u.2.1.pos (hFail E.cx h')) ∨ (u.1 = e ∧ ∃ h', Eqs E p u.2.1 u.2.2 j h' ∧ h'.st = .fin e ∧ Runs E F u.2.1.pos h') := by
 intro u
 have hu : u = mClose E e s x := rfl
 unfold mClose at hu
 unfold hClose at R
 rw [A.x] at R
 by_cases h1 : e = 1 ∧ x.held ≠ []
 ·rw [if_pos h1] at hu R
  obtain rfl := A.x
  rcases commit_sim (A.st .cStat) hg rfl R with ⟨O, k⟩ | ⟨k, h', A1, R1⟩ | ⟨k, h', A1, hs1, R1⟩
  ·rw [hu]
   refine Or.inl ⟨O, ?_⟩
   rcases k with k | k <;> rw [k] <;> decide
  ·rw [hu]
   exact Or.inr (Or.inl ⟨k, h', A1, R1⟩)
  ·rw [hu]
   exact Or.inr (Or.inr ⟨k.trans h1.1.symm, h', A1, by rw [hs1, h1.1], R1⟩)
 ·rw [if_neg h1, if_pos (by omega)] at hu
  rw [if_neg h1] at R
  rcases free_sim x.held s h A R with O | ⟨h', A1, hs1, R1⟩
  ·rw [hu]
   exact Or.inl ⟨O, by show e ≠ 5; omega⟩
  ·rw [hu]
   exact Or.inr (Or.inr ⟨rfl, h', A1, hs1, R1⟩)
theorem attempt_sim {E : Env} {F : Th} {x : TS} {j : Nat} {s : LS} {h : Th} (hf : 0 ≤ E.c.f) (A : Eqs E s.pos s x j h) (hs : h.st = .start) (R : Runs E F s.pos h) :
  let t := mAttempt E s j
  (Over E F t.2 ∧ t.1 = -1) ∨ (t.1 = 5 ∧ ∃ h' x', Eqs E (s.pos + 1) t.2 x' j h' ∧ h'.st = .start ∧ Runs E F t.2.pos h') ∨ (t.1 ≠ 5 ∧ ∃ h' x', Eqs E (s.pos + 1) t.2 x' j h' ∧ Runs E F t.2.pos (hTo E.cx (j + 1) h')) := by
 intro t
 have ht : t = mAttempt E s j := rfl
 unfold mAttempt at ht
 rcases A.ask R (q := ⟨1, 0, 0, 0⟩) (by simp [hOut, hs]) with ⟨s1, eq, o, O⟩ | ⟨s1, eq, o, hlt, hp, A1, R1⟩
 ·rw [show mLoad E s 0 = _ from eq] at ht
  simp only [o, if_true] at ht
  rw [ht]
  exact Or.inl ⟨O, rfl⟩
 rw [show mLoad E s 0 = _ from eq] at ht
 rw [if_neg (by rw [o]; decide)] at ht
 have hwn : (ansAt E s.pos).num = E.whens.getD (s1.pos - 1) 0 := by rw [hp]; rfl
 have hn1 : hNext E.cx h (ansAt E s.pos) = hGo E.cx { h with list := h.list ++ [⟨E.me, j, E.whens.getD (s1.pos - 1) 0, 0, (ansAt E s.pos).seen, 0, 0, []⟩], x := newTS (E.jobs.getD j (0, [])).2 (ansAt E s.pos).seen } := by
  simp only [hNext, hs, A.job, hwn]
  rfl
 rw [hn1] at R1
 simp only at ht
 have A2 : Eqs E (s.pos + 1) { s1 with list := s1.list ++ [⟨E.me, j, E.whens.getD (s1.pos - 1) 0, 0, (ansAt E s.pos).seen, 0, 0, []⟩] } (newTS (E.jobs.getD j (0, [])).2 (ansAt E s.pos).seen) j { h with list := h.list ++ [⟨E.me, j, E.whens.getD (s1.pos - 1) 0, 0, (ansAt E s.pos).seen, 0, 0, []⟩], x := newTS (E.jobs.getD j (0, [])).2 (ansAt E s.pos).seen } :=
  ⟨A1.over, A1.pos, by show s.pos + 1 ≤ s1.pos; omega, A1.rank, A1.fails, by show h.list ++ _ = s1.list ++ _; rw [A1.list], A1.ends, rfl, A1.job⟩
 have R2 : Runs E F ({ s1 with list := s1.list ++ [⟨E.me, j, E.whens.getD (s1.pos - 1) 0, 0, (ansAt E s.pos).seen, 0, 0, []⟩] } : LS).pos (hGo E.cx { h with list := h.list ++ [⟨E.me, j, E.whens.getD (s1.pos - 1) 0, 0, (ansAt E s.pos).seen, 0, 0, []⟩], x := newTS (E.jobs.getD j (0, [])).2 (ansAt E s.pos).seen }) := R1
 generalize ({ s1 with list := s1.list ++ [⟨E.me, j, E.whens.getD (s1.pos - 1) 0, 0, (ansAt E s.pos).seen, 0, 0, []⟩] } : LS) = s2 at *
 generalize ({ h with list := h.list ++ [⟨E.me, j, E.whens.getD (s1.pos - 1) 0, 0, (ansAt E s.pos).seen, 0, 0, []⟩], x := newTS (E.jobs.getD j (0, [])).2 (ansAt E s.pos).seen } : Th) = h2 at *
 have hst := steps_sim (E.c.f.toNat + 2) s2 (newTS (E.jobs.getD j (0, [])).2 (ansAt E s.pos).seen) h2 A2 (by show ((0 : Nat) : Int) ≤ _; simpa using hf) (by show E.c.f.toNat - 0 < _; omega) rfl R2
 generalize mSteps E (E.c.f.toNat + 2) s2 (newTS (E.jobs.getD j (0, [])).2 (ansAt E s.pos).seen) = t3 at *
 simp only at hst
 have hcl : (t3.1 = -1 ∧ Over E F t3.2.1) ∨ (t3.1 ≠ -1 ∧ ((Over E F (mClose E t3.1 t3.2.1 t3.2.2).2.1 ∧ (mClose E t3.1 t3.2.1 t3.2.2).1 ≠ 5) ∨ ((mClose E t3.1 t3.2.1 t3.2.2).1 = 5 ∧ ∃ h', Eqs E (s.pos + 1) (mClose E t3.1 t3.2.1 t3.2.2).2.1 (mClose E t3.1 t3.2.1 t3.2.2).2.2 j h' ∧ Runs E F (mClose E t3.1 t3.2.1 t3.2.2).2.1.pos (hFail E.cx h')) ∨
         ((mClose E t3.1 t3.2.1 t3.2.2).1 ≠ 5 ∧ ∃ h', Eqs E (s.pos + 1) (mClose E t3.1 t3.2.1 t3.2.2).2.1 (mClose E t3.1 t3.2.1 t3.2.2).2.2 j h' ∧ h'.st = .fin (mClose E t3.1 t3.2.1 t3.2.2).1 ∧ Runs E F (mClose E t3.1 t3.2.1 t3.2.2).2.1.pos h'))) := by
  rcases hst with ⟨O, e⟩ | ⟨e, h', A3, R3⟩ | ⟨e, g, h', A3, R3⟩
  ·exact Or.inl ⟨e, O⟩
  ·refine Or.inr ⟨by rw [e]; decide, Or.inr (Or.inl ?_)⟩
   have ec : mClose E t3.1 t3.2.1 t3.2.2 = (t3.1, t3.2.1, t3.2.2) := by
    unfold mClose
    rw [if_neg (by rw [e]; simp), if_neg (by rw [e]; simp)]
   rw [ec]
   exact ⟨e, h', A3, R3⟩
  ·refine Or.inr ⟨by omega, ?_⟩
   rcases close_sim e A3 g R3 with ⟨O, k⟩ | ⟨k, h4, A4, R4⟩ | ⟨k, h4, A4, hs4, R4⟩
   ·exact Or.inl ⟨O, k⟩
   ·exact Or.inr (Or.inl ⟨k, h4, A4, R4⟩)
   ·exact Or.inr (Or.inr ⟨by rw [k]; omega, h4, A4, by rw [k]; exact hs4, R4⟩)
 rcases hcl with ⟨e, O⟩ | ⟨e, hcl⟩
 ·rw [if_pos e] at ht
  rw [ht]
  exact Or.inl ⟨O, rfl⟩
 rw [if_neg e] at ht
 generalize mClose E t3.1 t3.2.1 t3.2.2 = u at *
 rcases hcl with ⟨O, k⟩ | ⟨k, h4, A4, R4⟩ | ⟨k, h4, A4, hs4, R4⟩
 ·rw [if_neg k, mStore_over O.over, if_pos O.over] at ht
  rw [ht]
  exact Or.inl ⟨O, rfl⟩
 ·rw [if_pos k] at ht
  rw [ht]
  rcases fail_sim A4 R4 with ⟨O, k2⟩ | ⟨k2, h5, A5, hs5, R5⟩
  ·exact Or.inl ⟨O, k2⟩
  ·exact Or.inr (Or.inl ⟨k2, h5, _, A5, hs5, R5⟩)
 ·rw [if_neg k] at ht
  rcases A4.ask R4 (q := ⟨2, cStatus E E.me, 0, 0⟩) (by simp only [hOut, hs4]; rfl) with ⟨s5, eq, o, O⟩ | ⟨s5, eq, o, hlt, hp5, A5, R5⟩
  ·rw [show mStore E u.2.1 (cStatus E E.me) 0 = _ from eq, if_pos o] at ht
   rw [ht]
   exact Or.inl ⟨O, rfl⟩
  ·rw [show mStore E u.2.1 (cStatus E E.me) 0 = _ from eq, if_neg (by rw [o]; decide)] at ht
   simp only at ht
   have hwn5 : (ansAt E u.2.1.pos).num = E.whens.getD (s5.pos - 1) 0 := by rw [hp5]; rfl
   have A6 := A5.ended u.1 _ hwn5
   have hn5 : hNext E.cx h4 (ansAt E u.2.1.pos) = hTo E.cx (j + 1) { h4.ended (ansAt E u.2.1.pos).num u.1 with ends := h4.ends.set j ⟨u.1, regOf u.2.2 0, regOf u.2.2 1, regOf u.2.2 2, regOf u.2.2 3⟩ } := by
    simp only [hNext, hs4, A4.job, A4.x]
   rw [hn5] at R5
   rw [ht]
   refine Or.inr (Or.inr ⟨k, { h4.ended (ansAt E u.2.1.pos).num u.1 with ends := h4.ends.set j ⟨u.1, regOf u.2.2 0, regOf u.2.2 1, regOf u.2.2 2, regOf u.2.2 3⟩ }, u.2.2, ⟨A6.over, A6.pos, A6.lo, A6.rank, A6.fails, A6.list, ?_, A6.x, A6.job⟩, R5⟩)
   show h4.ends.set j _ = (mEnded E s5 u.1).ends.set j _
   rw [A5.ends]
   rfl
theorem attempts_sim {E : Env} {F : Th} {j : Nat} (hf : 0 ≤ E.c.f) : ∀ (n : Nat) (x : TS) (s : LS) (h : Th), E.seen.length - s.pos < n → Eqs E s.pos s x j h → h.st = .start → Runs E F s.pos h →
  Over E F (mAttempts E j n s) ∨ ∃ h' x', Eqs E 0 (mAttempts E j n s) x' j h' ∧ Runs E F (mAttempts E j n s).pos (hTo E.cx (j + 1) h')
 | 0, x, s, h, hn, A, hs, R => absurd hn (Nat.not_lt_zero _)
 | n + 1, x, s, h, hn, A, hs, R => by
  unfold mAttempts
  simp only
  rcases attempt_sim hf A hs R with ⟨O, e⟩ | ⟨e, h', x', A1, hs1, R1⟩ | ⟨e, h', x', A1, R1⟩
  ·rw [if_neg (by rw [e]; decide)]
   exact Or.inl O
  ·rw [if_pos e]
   have h1 := A1.lo
   have h2 := A1.pos
   exact attempts_sim hf n x' _ h' (by omega) ⟨A1.over, A1.pos, Nat.le_refl _, A1.rank, A1.fails, A1.list, A1.ends, A1.x, A1.job⟩ hs1 R1
  ·rw [if_neg e]
   exact Or.inr ⟨h', x', ⟨A1.over, A1.pos, Nat.zero_le _, A1.rank, A1.fails, A1.list, A1.ends, A1.x, A1.job⟩, R1⟩
theorem mAsk_none_over {E : Env} (s : LS) (h : s.over = true) : ∀ (n : Nat), mAttempts E n (loopFuel E s) { s with rank := 0, fails := 0 } = { s with rank := 0, fails := 0 } := fun n => by
 obtain ⟨m, hm⟩ := loopFuel_succ E s
 rw [hm]
 unfold mAttempts mAttempt
 have o : ({ s with rank := 0, fails := 0 } : LS).over = true := h
 simp only [mLoad_over o, o, if_true]
 rw [if_neg (by decide)]
theorem jobs_over {E : Env} {F : Th} : ∀ (l : List (Int × List InsD)) (j : Nat) (s : LS), Over E F s → Over E F (mJobs E j l s)
 | [], j, s, O => O
 | b :: r, j, s, O => by
  unfold mJobs
  by_cases hb : b.1 = E.me
  ·rw [if_pos hb, mAsk_none_over s O.over]
   exact jobs_over r (j + 1) _ (O.list_same rfl rfl rfl rfl)
  ·rw [if_neg hb]
   exact jobs_over r (j + 1) s O
theorem drop_cons {α : Type} {l r : List α} {b : α} {j : Nat} (h : l.drop j = b :: r) : l.drop (j + 1) = r := by
 rw [← List.drop_drop, h]; rfl
theorem jobs_sim {E : Env} {F : Th} (hf : 0 ≤ E.c.f) : ∀ (l : List (Int × List InsD)) (j : Nat) (s : LS) (x : TS) (k : Nat) (h : Th), E.jobs.drop j = l → Eqs E 0 s x k h → Runs E F s.pos (hTo E.cx j h) →
  Over E F (mJobs E j l s) ∨ ∃ h' x' k', Eqs E 0 (mJobs E j l s) x' k' h' ∧ h'.st = .idle ∧ Runs E F (mJobs E j l s).pos h'
 | [], j, s, x, k, h, hl, A, R => by
  unfold hTo at R
  rw [show E.cx.jobs.drop j = [] from hl] at R
  exact Or.inr ⟨_, x, k, A.st .idle, rfl, R⟩
 | b :: r, j, s, x, k, h, hl, A, R => by
  unfold mJobs
  unfold hTo at R
  rw [show E.cx.jobs.drop j = b :: r from hl] at R
  unfold seek at R
  by_cases hb : b.1 = E.me
  ·rw [if_pos hb]
   rw [show E.cx.me = E.me from rfl, if_pos hb] at R
   simp only at R
   have A1 : Eqs E s.pos { s with rank := 0, fails := 0 } x j { h with rank := 0, fails := 0, job := j, st := .start } := ⟨A.over, A.pos, Nat.le_refl _, rfl, rfl, A.list, A.ends, A.x, rfl⟩
   rcases attempts_sim hf (loopFuel E s) x { s with rank := 0, fails := 0 } _ (fuel_lt E s) A1 rfl R with O | ⟨h', x', A2, R2⟩
   ·exact Or.inl (jobs_over r (j + 1) _ O)
   ·exact jobs_sim hf r (j + 1) _ x' j h' (drop_cons hl) A2 R2
  ·rw [if_neg hb]
   rw [show E.cx.me = E.me from rfl, if_neg hb] at R
   refine jobs_sim hf r (j + 1) s x k h (drop_cons hl) A ?_
   unfold hTo
   rw [show E.cx.jobs.drop (j + 1) = r from drop_cons hl, show E.cx.me = E.me from rfl]
   exact R
theorem idle_sim {E : Env} {F : Th} {x : TS} {k : Nat} : ∀ (n : Nat) (s : LS) (h : Th), E.seen.length - s.pos < n → Eqs E 0 s x k h → h.st = .idle → Runs E F s.pos h → Over E F (mIdle E n s)
 | 0, s, h, hn, A, hs, R => absurd hn (Nat.not_lt_zero _)
 | n + 1, s, h, hn, A, hs, R => by
  unfold mIdle
  rw [if_neg (by rw [A.over]; decide)]
  rcases A.ask R (q := ⟨0, 0, 0, 0⟩) (by simp [hOut, hs]) with ⟨s1, eq, o, O⟩ | ⟨s1, eq, o, hlt, hp, A1, R1⟩
  ·rw [eq]
   cases n
   ·exact O
   ·unfold mIdle
    rw [if_pos o]
    exact O
  ·rw [eq]
   have hn1 : hNext E.cx h (ansAt E s.pos) = h := by simp only [hNext, hs]
   rw [hn1] at R1
   exact idle_sim n s1 h (by omega) A1 hs R1
theorem told_sim (E : Env) (hf : 0 ≤ E.c.f) : Over E (hRun E.cx (hInit E.cx) (ansOf E)) (mTold E) := by
 unfold mTold mLive
 simp only
 have A : Eqs E 0 (newLS E) (newTS [] 0) 0 ⟨0, 0, [], E.cx.jobs.map fun _ => ⟨0, 0, 0, 0, 0⟩, 0, newTS [] 0, .idle⟩ := ⟨rfl, Nat.zero_le _, Nat.zero_le _, rfl, rfl, rfl, rfl, rfl, rfl⟩
 rcases jobs_sim (F := hRun E.cx (hInit E.cx) (ansOf E)) hf E.jobs 0 (newLS E) _ _ _ rfl A rfl with O | ⟨h, x, k, A1, hs, R⟩
 ·generalize mJobs E 0 E.jobs (newLS E) = s1 at *
  obtain ⟨n, hn⟩ := loopFuel_succ E s1
  rw [hn]
  unfold mIdle
  rw [if_pos O.over]
  exact O
 ·exact idle_sim _ _ h (fuel_lt E _) A1 hs R
end Go.Proofs.YtejadojilncbjaaGreat
namespace Go.Proofs.YtejadojilncbjaaGreat
open Go.RowKit
set_option linter.unusedVariables false
structure Hd where
 ma : Option Addr
 ml : Nat
 mc : Nat
 ja : Option Addr
 jc : Nat
 sa : Option Addr
 sc : Nat
 da : Option Addr
 dc : Nat
 wa : Option Addr
 wc : Nat
 ea : Option Addr
 ec : Nat
def lifeArr (E : Env) (H : Hd) (la : Option Addr) (lc : Nat) (s : LS) : Array Value :=
 #[.int .i64 E.c.t, .int .i64 E.c.wd, .int .i64 E.c.s, .int .i64 E.c.g, .int .i64 E.c.r, .int .i64 E.c.cp, .int .i64 E.c.f, .slice H.ma H.ml H.mc, .slice H.ja E.jobs.length H.jc,
     .int .i64 E.me, .slice H.sa E.seen.length H.sc, .slice H.da E.draws.length H.dc, .slice H.wa E.whens.length H.wc, .int .i64 s.pos, .bool s.over,
     .int .i64 s.next.kind, .int .i64 s.next.cell, .int .i64 s.next.frm, .int .i64 s.next.to, .int .i64 s.rank, .int .i64 s.fails, .slice la s.list.length lc, .slice H.ea s.ends.length H.ec]
def Blk (w : World) (p : Nat) (t : TypeId) (cs : Array Value) : Prop := w.heap[p]? = some (.cells cs t (0, 0))
theorem Blk.cell {w : World} {p : Nat} {t : TypeId} {cs : Array Value} (h : Blk w p t cs) : ∀ i, w.cell? ⟨p, i, none⟩ = cs[i]? := fun i => by
 simp [World.cell?, show w.heap[p]? = some (.cells cs t (0, 0)) from h]
theorem Blk.frozen {w : World} {p : Nat} {t : TypeId} {cs : Array Value} (h : Blk w p t cs) : ∀ i, w.frozen? ⟨p, i, none⟩ = false := fun i => by
 simp [World.frozen?, show w.heap[p]? = some (.cells cs t (0, 0)) from h]
theorem Blk.lt {w : World} {p : Nat} {t : TypeId} {cs : Array Value} (h : Blk w p t cs) : p < w.heap.size := by
 rcases Nat.lt_or_ge p w.heap.size with h' | h'
 ·exact h'
 ·have : w.heap[p]? = some (.cells cs t (0, 0)) := h
  rw [Array.getElem?_eq_none h'] at this; cases this
theorem Blk.ne {w : World} {p q : Nat} {t u : TypeId} {cs ds : Array Value} (h : Blk w p t cs) (k : Blk w q u ds) (hne : t ≠ u) : p ≠ q := fun e => by
 subst e
 have h1 : w.heap[p]? = some (.cells cs t (0, 0)) := h
 have h2 : w.heap[p]? = some (.cells ds u (0, 0)) := k
 rw [h1] at h2
 simp at h2
 exact hne h2.2
theorem Blk.below {w w' : World} {p B : Nat} {t : TypeId} {cs : Array Value} (h : Blk w p t cs) (hb : Below B w w') (hp : p < B) : Blk w' p t cs := (hb.block p hp).trans h
theorem Blk.drewN {w : World} {p : Nat} {t : TypeId} {cs : Array Value} (h : Blk w p t cs) (n : Nat) : Blk (w.drewN n) p t cs := h
theorem Blk.alloc {w : World} {p : Nat} {t : TypeId} {cs : Array Value} (h : Blk w p t cs) (o : Obj) : Blk (w.alloc o) p t cs := h.below ((Below.refl _ _).alloc (Nat.le_refl _) o) h.lt
theorem Blk.new (w : World) (t : TypeId) (cs : Array Value) : Blk (w.alloc (.cells cs t)) w.heap.size t cs := heap_alloc_new w _
structure Only (p : Nat) (w w' : World) : Prop where
 os : w'.os = w.os
 tape : w'.tape = w.tape
 output : w'.output = w.output
 size : w.heap.size ≤ w'.heap.size
 block : ∀ k, k < w.heap.size → k ≠ p → w'.heap[k]? = w.heap[k]?
theorem Only.refl (p : Nat) (w : World) : Only p w w := ⟨rfl, rfl, rfl, Nat.le_refl _, fun _ _ _ => rfl⟩
theorem Only.trans {p : Nat} {a b c : World} (h : Only p a b) (k : Only p b c) : Only p a c :=
 ⟨k.os.trans h.os, k.tape.trans h.tape, k.output.trans h.output, Nat.le_trans h.size k.size, fun i hi hp => (k.block i (Nat.lt_of_lt_of_le hi h.size) hp).trans (h.block i hi hp)⟩
theorem Only.below {p : Nat} {w w' : World} (h : Below w.heap.size w w') : Only p w w' := ⟨h.os, h.tape, h.output, h.size, fun k hk _ => h.block k hk⟩
theorem Only.drewN {p : Nat} {w w' : World} (h : Only p w w') (n : Nat) : Only p w (w'.drewN n) := ⟨h.os, h.tape, h.output, h.size, h.block⟩
theorem Only.drew {p : Nat} {w w' : World} (h : Only p w w') : Only p w w'.drew := ⟨h.os, h.tape, h.output, h.size, h.block⟩
theorem Only.set {p i : Nat} {w w' : World} {v : Value} (h : Only p w w') : Only p w (w'.setCell ⟨p, i, none⟩ v) :=
 h.trans ⟨rfl, rfl, rfl, by simp [World.setCell], fun k _ hk => Below.heap_setCell _ _ _ _ (by simpa using hk)⟩
theorem Blk.only {w w' : World} {p q : Nat} {t : TypeId} {cs : Array Value} (h : Blk w q t cs) (ho : Only p w w') (hne : q ≠ p) : Blk w' q t cs := (ho.block q h.lt hne).trans h
theorem Blk.set {w : World} {p i : Nat} {t : TypeId} {cs : Array Value} {v : Value} (h : Blk w p t cs) : Blk (w.setCell ⟨p, i, none⟩ v) p t (cs.setIfInBounds i v) := by
 show (w.setCell ⟨p, i, none⟩ v).heap[p]? = _
 rw [setCell_eq_setRow w p i cs t (0, 0) v h]
 exact setRow_heap w p _ _ t _ h
theorem Blk.congr {w : World} {p : Nat} {t : TypeId} {cs ds : Array Value} (h : Blk w p t cs) (e : cs = ds) : Blk w p t ds := e ▸ h
set_option maxHeartbeats 1000000 in
theorem ask_any (E : Env) (H : Hd) (la : Option Addr) (lc : Nat) (s : LS) (p : Nat) (k c f t : Int) (w : World) (hb : Blk w p 88 (lifeArr E H la lc s)) (hs : Ints w w.heap.size H.sa E.seen)
  (hpos : s.pos ≤ E.seen.length) (hlen : E.seen.length ≤ 2 ^ 45) :
  Calls Tryz.prog 78 #[.pointer (some ⟨p, 0, none⟩), .int .i64 k, .int .i64 c, .int .i64 f, .int .i64 t] w fun e w' =>
   e = .returned (.int .i64 (mAsk E s ⟨k, c, f, t⟩).1) ∧ Blk w' p 88 (lifeArr E H la lc (mAsk E s ⟨k, c, f, t⟩).2) ∧ Only p w w' := by
 have hcl := hb.cell
 have hfl := hb.frozen
 have hlt := hb.lt
 have HB : Hid (Blk w p 88 (lifeArr E H la lc s)) := hb
 have HS : Hid (Ints w w.heap.size H.sa E.seen) := hs
 clear hb hs
 unfold lifeArr at hcl
 obtain ⟨pos, over, next, rank, fails, list, ends⟩ := s
 cases over with
 | true =>
  go_enter Tryz.func78, Tryz.ntmps78
  go_wp2
  go_ret
  exact ⟨by simp [mAsk], by simpa [mAsk] using HB.out, Only.refl _ _⟩
 | false =>
  by_cases hle : E.seen.length ≤ pos
  ·have hI : ((E.seen.length : Nat) : Int) ≤ (pos : Int) := by omega
   go_enter Tryz.func78, Tryz.ntmps78
   go_wp2
   go_quiet (fail)
   go_wp2
   go_ret
   refine ⟨by simp [mAsk, hle], ?_, ?_⟩
   ·exact (((((((HB.out).drewN nq).set).set).set).set).set).congr (by simp [mAsk, hle, lifeArr])
   ·exact ((((((Only.refl _ _).drewN nq).set).set).set).set).set
  ·have hI : ¬ ((E.seen.length : Nat) : Int) ≤ (pos : Int) := by omega
   have hI2 : (pos : Int) < (E.seen.length : Nat) := by omega
   obtain ⟨b, off, ha, hbl, hc⟩ := HS.out pos (by omega)
   obtain ⟨z, hz⟩ : ∃ z, z = E.seen.getD pos 0 := ⟨_, rfl⟩
   rw [← hz] at hc
   have HZ : Hid (z = E.seen.getD pos 0) := hz
   have HP : Hid (¬ E.seen.length ≤ pos) := hle
   rw [ha] at hcl
   clear hz hle
   go_enter Tryz.func78, Tryz.ntmps78
   go_wp2
   go_quiet (fail)
   go_wp2
   go_quiet (fail)
   go_wp2
   go_ret
   refine ⟨by simp [mAsk, HP.out, HZ.out], ?_, ?_⟩
   ·exact (((HB.out).drewN _).set).congr (by simp [mAsk, HP.out, lifeArr])
   ·exact ((Only.refl _ _).drewN _).set
end Go.Proofs.YtejadojilncbjaaGreat
