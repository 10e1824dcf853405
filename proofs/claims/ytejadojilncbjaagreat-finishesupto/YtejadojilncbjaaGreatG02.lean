import Derived.Test.YtejadojilncbjaaGreatG01
namespace Go.Proofs.YtejadojilncbjaaGreat
set_option linter.unusedVariables false
structure Eqs (E : Env) (p : Nat) (s : LS) (x : TS) (j : Nat) (h : Th) : Prop where
 over : s.over = false
 pos : s.pos ≤ E.seen.length
 lo : p ≤ s.pos
 rank : h.rank = s.rank
 fails : h.fails = s.fails
 list : h.list = s.list
 ends : h.ends = s.ends
 x : h.x = x
 job : h.job = j
def Runs (E : Env) (F : Th) (p : Nat) (h : Th) : Prop := hRun E.cx h ((ansOf E).drop p) = F
structure Over (E : Env) (F : Th) (s : LS) : Prop where
 over : s.over = true
 next : s.next = hOut E.cx F
 list : s.list = F.list
 ends : s.ends = F.ends
def ansAt (E : Env) (p : Nat) : AnsD := ⟨E.seen.getD p 0, E.draws.getD p 0, E.whens.getD p 0⟩
theorem ansOf_drop (E : Env) (p : Nat) (h : p < E.seen.length) : (ansOf E).drop p = ansAt E p :: (ansOf E).drop (p + 1) := by
 have hl : p < (ansOf E).length := by simpa [ansOf] using h
 rw [List.drop_eq_getElem_cons hl]
 congr 1
 simp [ansOf, ansAt]
theorem mAsk_over {E : Env} {s : LS} (h : s.over = true) (q : AskD) : mAsk E s q = (0, s) := by unfold mAsk; rw [if_pos h]
theorem mLoad_over {E : Env} {s : LS} (h : s.over = true) (c : Int) : mLoad E s c = (0, s) := mAsk_over h _
theorem mStore_over {E : Env} {s : LS} (h : s.over = true) (c v : Int) : mStore E s c v = (0, s) := mAsk_over h _
theorem Eqs.ask {E : Env} {p : Nat} {F : Th} {s : LS} {x : TS} {j : Nat} {h : Th} (A : Eqs E p s x j h) (R : Runs E F s.pos h) {q : AskD} (hq : hOut E.cx h = q) :
  (∃ s', mAsk E s q = (0, s') ∧ s'.over = true ∧ Over E F s') ∨
   (∃ s', mAsk E s q = ((ansAt E s.pos).seen, s') ∧ s'.over = false ∧ s.pos < E.seen.length ∧ s'.pos = s.pos + 1 ∧ Eqs E p s' x j h ∧ Runs E F s'.pos (hNext E.cx h (ansAt E s.pos))) := by
 unfold mAsk
 rw [if_neg (by rw [A.over]; decide)]
 by_cases hp : E.seen.length ≤ s.pos
 ·left
  rw [if_pos hp]
  refine ⟨_, rfl, rfl, ?_⟩
  have : F = h := by
   have e : (ansOf E).drop s.pos = [] := List.drop_eq_nil_of_le (by simpa [ansOf] using hp)
   have := R
   unfold Runs at this
   rw [e] at this
   exact this.symm
  exact ⟨rfl, by rw [this]; exact hq.symm, by rw [this]; exact A.list.symm, by rw [this]; exact A.ends.symm⟩
 ·right
  rw [if_neg hp]
  refine ⟨_, rfl, A.over, by omega, rfl, ⟨A.over, by show s.pos + 1 ≤ _; omega, by have := A.lo; show p ≤ s.pos + 1; omega, A.rank, A.fails, A.list, A.ends, A.x, A.job⟩, ?_⟩
  have := R
  unfold Runs at this ⊢
  rw [ansOf_drop E s.pos (by omega)] at this
  exact this
theorem foldl_over {α : Type} {f : LS → α → LS} (hf : ∀ s q, s.over = true → f s q = s) : ∀ (l : List α) (s : LS), s.over = true → l.foldl f s = s
 | [], _, _ => rfl
 | q :: l, s, h => by rw [List.foldl_cons, hf s q h]; exact foldl_over hf l s h
theorem Eqs.st {E : Env} {p : Nat} {s : LS} {x : TS} {j : Nat} {h : Th} (A : Eqs E p s x j h) (a : St) : Eqs E p s x j { h with st := a } := ⟨A.over, A.pos, A.lo, A.rank, A.fails, A.list, A.ends, A.x, A.job⟩
theorem free_sim {E : Env} {p : Nat} {F : Th} {x : TS} {j : Nat} {e : Int} : ∀ (r : List Int) (s : LS) (h : Th), Eqs E p s x j h → Runs E F s.pos (hFreeAt e r h) →
  Over E F (r.foldl (fun s q => (mStore E s (cOwner E q) 0).2) s) ∨ ∃ h', Eqs E p (r.foldl (fun s q => (mStore E s (cOwner E q) 0).2) s) x j h' ∧ h'.st = .fin e ∧ Runs E F (r.foldl (fun s q => (mStore E s (cOwner E q) 0).2) s).pos h'
 | [], s, h, A, R => Or.inr ⟨_, A.st (.fin e), rfl, R⟩
 | q :: r, s, h, A, R => by
  rw [List.foldl_cons]
  rcases (A.st (.free e (q :: r))).ask R (q := ⟨2, cOwner E q, 0, 0⟩) rfl with ⟨s1, eq, o, O⟩ | ⟨s1, eq, o, hlt, hp, A', R'⟩
  ·left
   rw [show mStore E s (cOwner E q) 0 = _ from eq]
   rw [foldl_over (fun s q h => by rw [mStore_over h]) _ _ o]
   exact O
  ·rw [show mStore E s (cOwner E q) 0 = _ from eq]
   exact free_sim r _ _ A' R'
theorem still_sim {E : Env} {p : Nat} {F : Th} {x : TS} {j : Nat} {k : Ex} {c : Int} : ∀ (r : List EntD) (s : LS) (h : Th), Eqs E p s x j h → Runs E F s.pos (hExStill E.cx k c r h) →
  (Over E F (mStill E x false r s).2 ∧ (mStill E x false r s).1 = -1) ∨ ((mStill E x false r s).1 = 5 ∧ ∃ h', Eqs E p (mStill E x false r s).2 x j h' ∧ Runs E F (mStill E x false r s).2.pos (hFail E.cx h')) ∨
   ((mStill E x false r s).1 = 0 ∧ ∃ h', Eqs E p (mStill E x false r s).2 x j h' ∧ Runs E F (mStill E x false r s).2.pos (hExDone E.cx k c h'))
 | [], s, h, A, R => Or.inr (Or.inr ⟨rfl, h, A, R⟩)
 | e :: r, s, h, A, R => by
  unfold mStill
  simp only [Bool.false_and, Bool.false_eq_true, if_false]
  rcases (A.st (.xVer k c (e :: r))).ask R (q := ⟨1, cVersion E e.what, 0, 0⟩) rfl with ⟨s1, eq, o, O⟩ | ⟨s1, eq, o, hlt, hp, A', R'⟩
  ·rw [show mLoad E s (cVersion E e.what) = _ from eq]
   simp only [o, if_true]
   exact Or.inl ⟨O, by first | rfl | trivial⟩
  ·rw [show mLoad E s (cVersion E e.what) = _ from eq]
   simp only [o, Bool.false_eq_true, if_false]
   by_cases hv : (ansAt E s.pos).seen ≠ e.val
   ·rw [if_pos hv]
    refine Or.inr (Or.inl ⟨rfl, _, A', ?_⟩)
    have : hNext E.cx { h with st := .xVer k c (e :: r) } (ansAt E s.pos) = hFail E.cx { h with st := .xVer k c (e :: r) } := if_pos hv
    rw [this] at R'
    exact R'
   ·rw [if_neg hv]
    have : hNext E.cx { h with st := .xVer k c (e :: r) } (ansAt E s.pos) = hExStill E.cx k c r { h with st := .xVer k c (e :: r) } := if_neg hv
    rw [this] at R'
    exact still_sim r _ _ A' R'
def Keep (x x' : TS) : Prop := x'.begun = x.begun ∧ x'.inGate = x.inGate
def hExK (K : Cx) (k : Ex) (h : Th) : Th := match k with
 | .rd i a v => hGot K i a v h
 | .wr i a => hWrote K i a h
theorem extend_sim {E : Env} {p : Nat} {F : Th} {x : TS} {j : Nat} {k : Ex} {s : LS} {h : Th} (A : Eqs E p s x j h) (hs : h.st = .xClock k) (R : Runs E F s.pos h) :
  (Over E F (mExtend E s x).2.1 ∧ (mExtend E s x).1 = -1) ∨ ((mExtend E s x).1 = 5 ∧ ∃ h', Eqs E p (mExtend E s x).2.1 (mExtend E s x).2.2 j h' ∧ Runs E F (mExtend E s x).2.1.pos (hFail E.cx h')) ∨
   ((mExtend E s x).1 = 0 ∧ Keep x (mExtend E s x).2.2 ∧ ∃ h', Eqs E p (mExtend E s x).2.1 (mExtend E s x).2.2 j h' ∧ Runs E F (mExtend E s x).2.1.pos (hExK E.cx k h')) := by
 unfold mExtend
 rcases A.ask R (q := ⟨1, 0, 0, 0⟩) (by simp [hOut, hs]) with ⟨s1, eq, o, O⟩ | ⟨s1, eq, o, hlt, hp, A', R'⟩
 ·rw [show mLoad E s 0 = _ from eq]
  simp only [o, if_true]
  exact Or.inl ⟨O, by first | rfl | trivial⟩
 ·rw [show mLoad E s 0 = _ from eq]
  simp only [o, Bool.false_eq_true, if_false]
  have hn : hNext E.cx h (ansAt E s.pos) = hExStill E.cx k (ansAt E s.pos).seen x.reads h := by simp only [hNext, hs, A.x]
  rw [hn] at R'
  rcases still_sim x.reads _ _ A' R' with ⟨O, e⟩ | ⟨e, h', A2, R2⟩ | ⟨e, h', A2, R2⟩
  ·rw [e, if_neg (by decide)]
   exact Or.inl ⟨O, rfl⟩
  ·rw [e, if_neg (by decide)]
   exact Or.inr (Or.inl ⟨rfl, h', A2, R2⟩)
  ·rw [e, if_pos rfl]
   refine Or.inr (Or.inr ⟨rfl, ⟨rfl, rfl⟩, { h' with list := modLast h'.list (fun t => { t with valid := (ansAt E s.pos).seen }), x := { h'.x with valid := (ansAt E s.pos).seen } }, ⟨A2.over, A2.pos, A2.lo, A2.rank, A2.fails, ?_, A2.ends, ?_, A2.job⟩, ?_⟩)
   ·show modLast h'.list _ = _
    rw [A2.list]
   ·show ({ h'.x with valid := _ } : TS) = _
    rw [A2.x]
   ·cases k <;> exact R2
theorem stands_sim {E : Env} {p : Nat} {F : Th} {x : TS} {j : Nat} {i : InsD} {a : Int} : ∀ (n : Nat) (s : LS) (h : Th), E.seen.length - s.pos < n → Eqs E p s x j h → h.st = .rVer i a → Runs E F s.pos h →
  let t := mStands E x a (a.tmod E.c.s) n s
  Over E F t.2.2.1 ∨ (t.2.1 = 5 ∧ ∃ h', Eqs E p t.2.2.1 t.2.2.2 j h' ∧ Runs E F t.2.2.1.pos (hFail E.cx h')) ∨ (t.2.1 = 0 ∧ Keep x t.2.2.2 ∧ ∃ h', Eqs E p t.2.2.1 t.2.2.2 j h' ∧ Runs E F t.2.2.1.pos (hGot E.cx i a t.1 h'))
 | 0, s, h, hn, A, hs, R => absurd hn (Nat.not_lt_zero _)
 | n + 1, s, h, hn, A, hs, R => by
  intro t
  have ht : t = mStands E x a (a.tmod E.c.s) (n + 1) s := rfl
  unfold mStands at ht
  rw [if_neg (by rw [A.over]; decide)] at ht
  have dead : ∀ (m : Nat) (s' : LS), s'.over = true → mStands E x a (a.tmod E.c.s) m s' = (0, -1, s', x) := fun m s' h => by
   cases m
   ·rfl
   ·unfold mStands; rw [if_pos h]
  rcases A.ask R (q := ⟨1, cVersion E (a.tmod E.c.s), 0, 0⟩) (by simp [hOut, hs]; rfl) with ⟨s1, eq, o, O⟩ | ⟨s1, eq, o, hlt, hp, A1, R1⟩
  ·rw [show mLoad E s (cVersion E (a.tmod E.c.s)) = _ from eq] at ht
   simp only [mLoad_over o, o] at ht
   rw [if_neg (by decide), if_pos (Or.inl trivial), dead _ _ o] at ht
   rw [ht]
   exact Or.inl O
  ·rw [show mLoad E s (cVersion E (a.tmod E.c.s)) = _ from eq] at ht
   simp only at ht
   by_cases h1 : (ansAt E s.pos).seen = -1
   ·rw [if_pos h1] at ht
    have hn1 : hNext E.cx h (ansAt E s.pos) = h := by simp only [hNext, hs]; rw [if_pos h1]
    rw [hn1] at R1
    rw [ht]
    exact stands_sim n _ _ (by omega) A1 hs R1
   ·rw [if_neg h1] at ht
    have hn1 : hNext E.cx h (ansAt E s.pos) = { h with st := .rWord i a (ansAt E s.pos).seen } := by simp only [hNext, hs]; rw [if_neg h1]
    rw [hn1] at R1
    rcases (A1.st _).ask R1 (q := ⟨1, cWord E a, 0, 0⟩) rfl with ⟨s2, eq2, o2, O⟩ | ⟨s2, eq2, o2, hlt2, hp2, A2, R2⟩
    ·rw [show mLoad E s1 (cWord E a) = _ from eq2] at ht
     simp only [mLoad_over o2, o2] at ht
     rw [if_pos (Or.inl trivial), dead _ _ o2] at ht
     rw [ht]
     exact Or.inl O
    ·rw [show mLoad E s1 (cWord E a) = _ from eq2] at ht
     simp only at ht
     have hn2 : hNext E.cx { h with st := .rWord i a (ansAt E s.pos).seen } (ansAt E s1.pos) = { h with st := .rAgain i a (ansAt E s.pos).seen (ansAt E s1.pos).seen } := rfl
     rw [hn2] at R2
     rcases (A2.st (.rAgain i a (ansAt E s.pos).seen (ansAt E s1.pos).seen)).ask R2 (q := ⟨1, cVersion E (a.tmod E.c.s), 0, 0⟩) rfl with ⟨s3, eq3, o3, O⟩ | ⟨s3, eq3, o3, hlt3, hp3, A3, R3⟩
     ·rw [show mLoad E s2 (cVersion E (a.tmod E.c.s)) = _ from eq3] at ht
      simp only [o3] at ht
      rw [if_pos (Or.inl trivial), dead _ _ o3] at ht
      rw [ht]
      exact Or.inl O
     ·rw [show mLoad E s2 (cVersion E (a.tmod E.c.s)) = _ from eq3] at ht
      simp only [o3] at ht
      by_cases h3 : (ansAt E s2.pos).seen ≠ (ansAt E s.pos).seen
      ·rw [if_pos (Or.inr h3)] at ht
       have hn3 : hNext E.cx { h with st := .rAgain i a (ansAt E s.pos).seen (ansAt E s1.pos).seen } (ansAt E s2.pos) = { h with st := .rVer i a } := if_pos h3
       have R3' := R3
       rw [hn3] at R3'
       rw [ht]
       exact stands_sim n _ _ (by omega) (A3.st (.rVer i a)) rfl R3'
      ·rw [if_neg (by rintro (h | h); · cases h
                      ·exact h3 h)] at ht
       have hn3 : hNext E.cx { h with st := .rAgain i a (ansAt E s.pos).seen (ansAt E s1.pos).seen } (ansAt E s2.pos) =
         (let x1 := if (entIdx x.reads (a.tmod E.c.s)).isSome then x else { x with reads := x.reads ++ [⟨a.tmod E.c.s, (ansAt E s.pos).seen⟩] }
             if (ansAt E s.pos).seen ≤ x1.valid then hGot E.cx i a (ansAt E s1.pos).seen { h with x := x1, st := .rAgain i a (ansAt E s.pos).seen (ansAt E s1.pos).seen } else { h with x := x1, st := .xClock (.rd i a (ansAt E s1.pos).seen) }) := by
        rw [← A.x]
        exact if_neg h3
       rw [hn3] at R3
       simp only at R3 ht
       have hk : Keep x (if (entIdx x.reads (a.tmod E.c.s)).isSome = true then x else { x with reads := x.reads ++ [⟨a.tmod E.c.s, (ansAt E s.pos).seen⟩] }) := by split <;> exact ⟨rfl, rfl⟩
       generalize (if (entIdx x.reads (a.tmod E.c.s)).isSome = true then x else { x with reads := x.reads ++ [⟨a.tmod E.c.s, (ansAt E s.pos).seen⟩] }) = x1 at *
       have A4 : ∀ st, Eqs E p s3 x1 j { h with x := x1, st := st } := fun st => ⟨A3.over, A3.pos, A3.lo, A3.rank, A3.fails, A3.list, A3.ends, rfl, A3.job⟩
       by_cases h4 : (ansAt E s.pos).seen ≤ x1.valid
       ·rw [if_pos h4] at ht R3
        rw [ht]
        exact Or.inr (Or.inr ⟨rfl, hk, _, A4 _, R3⟩)
       ·rw [if_neg h4] at ht R3
        rcases extend_sim (A4 _) rfl R3 with ⟨O, e⟩ | ⟨e, h', A5, R5⟩ | ⟨e, k5, h', A5, R5⟩
        ·rw [ht]; exact Or.inl O
        ·rw [ht]; exact Or.inr (Or.inl ⟨e, h', A5, R5⟩)
        ·rw [ht]; exact Or.inr (Or.inr ⟨e, ⟨k5.1.trans hk.1, k5.2.trans hk.2⟩, h', A5, R5⟩)
theorem get_sim {E : Env} {p : Nat} {F : Th} {x : TS} {j : Nat} {i : InsD} {a : Int} : ∀ (n : Nat) (s : LS) (h : Th), E.seen.length - s.pos < n → Eqs E p s x j h → h.st = .gStat i a → Runs E F s.pos h →
  let t := mGet E x (a.tmod E.c.s) n s
  (Over E F t.2.1 ∧ t.1 = -1) ∨ (t.1 = 5 ∧ ∃ h', Eqs E p t.2.1 t.2.2 j h' ∧ Runs E F t.2.1.pos (hFail E.cx h')) ∨ (t.1 = 0 ∧ Keep x t.2.2 ∧ ∃ h', Eqs E p t.2.1 t.2.2 j h' ∧ Runs E F t.2.1.pos (hWrote E.cx i a h'))
 | 0, s, h, hn, A, hs, R => absurd hn (Nat.not_lt_zero _)
 | n + 1, s, h, hn, A, hs, R => by
  intro t
  have ht : t = mGet E x (a.tmod E.c.s) (n + 1) s := rfl
  unfold mGet at ht
  rw [if_neg (by rw [A.over]; decide)] at ht
  have dead : ∀ (m : Nat) (s' : LS), s'.over = true → mGet E x (a.tmod E.c.s) m s' = (-1, s', x) := fun m s' h => by
   cases m
   ·rfl
   ·unfold mGet; rw [if_pos h]
  rcases A.ask R (q := ⟨1, cStatus E E.me, 0, 0⟩) (by simp [hOut, hs]; rfl) with ⟨s1, eq, o, O⟩ | ⟨s1, eq, o, hlt, hp, A1, R1⟩
  ·rw [show mLoad E s (cStatus E E.me) = _ from eq] at ht
   simp only [mAsk_over o, o] at ht
   rw [if_neg (by simp), if_pos trivial] at ht
   rw [ht]
   exact Or.inl ⟨O, rfl⟩
  ·rw [show mLoad E s (cStatus E E.me) = _ from eq] at ht
   simp only [o, true_and] at ht
   by_cases h1 : 0 < (ansAt E s.pos).seen.tmod 8
   ·rw [if_pos h1] at ht
    have hn1 : hNext E.cx h (ansAt E s.pos) = hFail E.cx h := by simp only [hNext, hs]; rw [if_pos h1]
    rw [hn1] at R1
    rw [ht]
    exact Or.inr (Or.inl ⟨rfl, h, A1, R1⟩)
   ·rw [if_neg h1] at ht
    have hn1 : hNext E.cx h (ansAt E s.pos) = { h with st := .gOwn i a } := by simp only [hNext, hs]; rw [if_neg h1]
    rw [hn1] at R1
    rcases (A1.st _).ask R1 (q := ⟨3, cOwner E (a.tmod E.c.s), 0, E.me + 1⟩) rfl with ⟨s2, eq2, o2, O⟩ | ⟨s2, eq2, o2, hlt2, hp2, A2, R2⟩
    ·rw [eq2] at ht
     simp only [o2] at ht
     rw [if_pos trivial] at ht
     rw [ht]
     exact Or.inl ⟨O, rfl⟩
    ·rw [eq2] at ht
     simp only [o2, Bool.false_eq_true, if_false] at ht
     by_cases h2 : (ansAt E s1.pos).seen = 0
     ·rw [if_pos h2] at ht
      have hn2 : hNext E.cx { h with st := .gOwn i a } (ansAt E s1.pos) = { h with x := { x with held := x.held ++ [a.tmod E.c.s] }, st := .gVer i a } := by
       rw [← A.x]
       exact if_pos h2
      rw [hn2] at R2
      have A3 : ∀ st, Eqs E p s2 { x with held := x.held ++ [a.tmod E.c.s] } j { h with x := { x with held := x.held ++ [a.tmod E.c.s] }, st := st } := fun st => ⟨A2.over, A2.pos, A2.lo, A2.rank, A2.fails, A2.list, A2.ends, rfl, A2.job⟩
      rcases (A3 _).ask R2 (q := ⟨1, cVersion E (a.tmod E.c.s), 0, 0⟩) rfl with ⟨s3, eq3, o3, O⟩ | ⟨s3, eq3, o3, hlt3, hp3, A4, R4⟩
      ·rw [show mLoad E s2 (cVersion E (a.tmod E.c.s)) = _ from eq3] at ht
       simp only [o3] at ht
       rw [if_pos trivial] at ht
       rw [ht]
       exact Or.inl ⟨O, rfl⟩
      ·rw [show mLoad E s2 (cVersion E (a.tmod E.c.s)) = _ from eq3] at ht
       simp only [o3, Bool.false_eq_true, if_false] at ht
       by_cases h3 : x.valid < (ansAt E s2.pos).seen
       ·rw [if_pos h3] at ht
        have hn3 : hNext E.cx { h with x := { x with held := x.held ++ [a.tmod E.c.s] }, st := .gVer i a } (ansAt E s2.pos) = { h with x := { x with held := x.held ++ [a.tmod E.c.s] }, st := .xClock (.wr i a) } := if_pos h3
        rw [hn3] at R4
        rcases extend_sim (A4.st (.xClock (.wr i a))) rfl R4 with ⟨O, e⟩ | ⟨e, h', A5, R5⟩ | ⟨e, k5, h', A5, R5⟩
        ·rw [ht]; exact Or.inl ⟨O, e⟩
        ·rw [ht]; exact Or.inr (Or.inl ⟨e, h', A5, R5⟩)
        ·rw [ht]; exact Or.inr (Or.inr ⟨e, ⟨k5.1, k5.2⟩, h', A5, R5⟩)
       ·rw [if_neg h3] at ht
        have hn3 : hNext E.cx { h with x := { x with held := x.held ++ [a.tmod E.c.s] }, st := .gVer i a } (ansAt E s2.pos) = hWrote E.cx i a { h with x := { x with held := x.held ++ [a.tmod E.c.s] }, st := .gVer i a } := if_neg h3
        rw [hn3] at R4
        rw [ht]
        exact Or.inr (Or.inr ⟨rfl, ⟨rfl, rfl⟩, _, A4, R4⟩)
     ·rw [if_neg h2] at ht
      by_cases h3 : s2.rank = 0
      ·rw [if_pos h3] at ht
       have hn2 : hNext E.cx { h with st := .gOwn i a } (ansAt E s1.pos) = hFail E.cx { h with st := .gOwn i a } := by
        have hr : h.rank = 0 := A2.rank.trans h3
        simp only [hNext]
        rw [if_neg h2, if_pos hr]
       rw [hn2] at R2
       rw [ht]
       exact Or.inr (Or.inl ⟨rfl, _, A2, R2⟩)
      ·rw [if_neg h3] at ht
       have hn2 : hNext E.cx { h with st := .gOwn i a } (ansAt E s1.pos) = { h with st := .gTheir i a (ansAt E s1.pos).seen } := by
        have hr : ¬ h.rank = 0 := fun e => h3 (A2.rank.symm.trans e)
        simp only [hNext]
        rw [if_neg h2, if_neg hr]
       rw [hn2] at R2
       rcases (A2.st (.gTheir i a (ansAt E s1.pos).seen)).ask R2 (q := ⟨1, cStatus E ((ansAt E s1.pos).seen - 1), 0, 0⟩) rfl with ⟨s3, eq3, o3, O⟩ | ⟨s3, eq3, o3, hlt3, hp3, A4, R4⟩
       ·rw [show mLoad E s2 (cStatus E ((ansAt E s1.pos).seen - 1)) = _ from eq3] at ht
        simp only [o3, mAsk_over o3] at ht
        rw [if_neg (by simp), if_pos (by decide), dead _ _ o3] at ht
        rw [ht]
        exact Or.inl ⟨O, rfl⟩
       ·rw [show mLoad E s2 (cStatus E ((ansAt E s1.pos).seen - 1)) = _ from eq3] at ht
        simp only [o3, true_and] at ht
        by_cases h4 : 0 < (ansAt E s2.pos).seen.tdiv 8 ∧ (ansAt E s2.pos).seen.tdiv 8 < s3.rank
        ·rw [if_pos h4] at ht
         have hn3 : hNext E.cx { h with st := .gTheir i a (ansAt E s1.pos).seen } (ansAt E s2.pos) = hFail E.cx { h with x := { x with way := (ansAt E s1.pos).seen - 1 }, st := .gTheir i a (ansAt E s1.pos).seen } := by
          have hr : h.rank = s3.rank := A4.rank
          simp only [hNext]
          rw [hr, if_pos h4, ← A.x, ← hr]
         rw [hn3] at R4
         rw [ht]
         exact Or.inr (Or.inl ⟨rfl, { h with x := { x with way := (ansAt E s1.pos).seen - 1 }, st := .gTheir i a (ansAt E s1.pos).seen }, ⟨A4.over, A4.pos, A4.lo, A4.rank, A4.fails, A4.list, A4.ends, rfl, A4.job⟩, R4⟩)
        ·rw [if_neg h4] at ht
         have hr : h.rank = s3.rank := A4.rank
         by_cases h5 : (ansAt E s2.pos).seen.tmod 8 = 0
         ·rw [if_pos h5] at ht
          have hn3 : hNext E.cx { h with st := .gTheir i a (ansAt E s1.pos).seen } (ansAt E s2.pos) = { h with st := .gMark i a (ansAt E s1.pos).seen (ansAt E s2.pos).seen } := by
           simp only [hNext]
           rw [hr, if_neg h4, if_pos h5, ← hr]
          rw [hn3] at R4
          rcases (A4.st (.gMark i a (ansAt E s1.pos).seen (ansAt E s2.pos).seen)).ask R4 (q := ⟨3, cStatus E ((ansAt E s1.pos).seen - 1), (ansAt E s2.pos).seen, (ansAt E s2.pos).seen + E.me + 1⟩) rfl with ⟨s4, eq4, o4, O⟩ | ⟨s4, eq4, o4, hlt4, hp4, A5, R5⟩
          ·rw [eq4, dead _ _ o4] at ht
           rw [ht]
           exact Or.inl ⟨O, rfl⟩
          ·rw [eq4] at ht
           rw [ht]
           exact get_sim n s4 _ (by omega) (A5.st (.gStat i a)) rfl R5
         ·rw [if_neg h5] at ht
          have hn3 : hNext E.cx { h with st := .gTheir i a (ansAt E s1.pos).seen } (ansAt E s2.pos) = { h with st := .gStat i a } := by
           simp only [hNext]
           rw [hr, if_neg h4, if_neg h5, ← hr]
          rw [hn3] at R4
          rw [ht]
          exact get_sim n _ _ (by omega) (A4.st (.gStat i a)) rfl R4
theorem Eqs.noted {E : Env} {p : Nat} {s : LS} {x : TS} {j : Nat} {h : Th} (A : Eqs E p s x j h) (op a v : Int) : Eqs E p (mNoted s op a v) x j (h.noted op a v) :=
 ⟨A.over, A.pos, A.lo, A.rank, A.fails, by show modLast h.list _ = modLast s.list _; rw [A.list], A.ends, A.x, A.job⟩
theorem Eqs.setx {E : Env} {p : Nat} {s : LS} {x : TS} {j : Nat} {h : Th} (A : Eqs E p s x j h) (y : TS) : Eqs E p s y j { h with x := y } := ⟨A.over, A.pos, A.lo, A.rank, A.fails, A.list, A.ends, rfl, A.job⟩
theorem Eqs.put {E : Env} {p : Nat} {s : LS} {x : TS} {j : Nat} {h : Th} (A : Eqs E p s x j h) (i : InsD) (a : Int) : Eqs E p (mNoted s 8 a (regOf x i.b)) { x with writes := putEnt x.writes a (regOf x i.b) } j (hPut i a h) := by
 have := (A.setx { x with writes := putEnt x.writes a (regOf x i.b) }).noted 8 a (regOf x i.b)
 unfold hPut
 rw [A.x]
 exact this
theorem wrote_sim {E : Env} {p : Nat} {F : Th} {x : TS} {j : Nat} {i : InsD} {a : Int} {s : LS} {h : Th} (A : Eqs E p s x j h) (R : Runs E F s.pos (hWrote E.cx i a h)) :
  let t := mWrote E s x i a false
  (Over E F t.2.1 ∧ t.1 = -1) ∨ (t.1 = 5 ∧ ∃ h', Eqs E p t.2.1 t.2.2 j h' ∧ Runs E F t.2.1.pos (hFail E.cx h')) ∨ (t.1 = 0 ∧ Keep x t.2.2 ∧ ∃ h', Eqs E p t.2.1 t.2.2 j h' ∧ Runs E F t.2.1.pos (hGo E.cx h')) := by
 intro t
 have ht : t = mWrote E s x i a false := rfl
 unfold mWrote at ht
 simp only [Bool.false_eq_true, false_or] at ht
 unfold hWrote at R
 rw [A.rank, A.x] at R
 have A1 := A.put i a
 have er : (mNoted s 8 a (regOf x i.b)).rank = s.rank := rfl
 rw [er] at ht
 by_cases h1 : s.rank ≠ 0 ∨ E.c.g = 0 ∨ (x.held.length : Int) ≠ E.c.g
 ·rw [if_pos h1] at ht
  have h1' : (s.rank ≠ 0 ∨ E.cx.c.g = 0 ∨ (x.held.length : Int) ≠ E.cx.c.g) := h1
  rw [if_pos h1'] at R
  rw [ht]
  exact Or.inr (Or.inr ⟨rfl, ⟨rfl, rfl⟩, _, A1, R⟩)
 ·rw [if_neg h1] at ht
  have h1' : ¬ (s.rank ≠ 0 ∨ E.cx.c.g = 0 ∨ (x.held.length : Int) ≠ E.cx.c.g) := h1
  rw [if_neg h1'] at R
  rcases (A1.st .tTake).ask R (q := ⟨4, 1, 0, 0⟩) rfl with ⟨s1, eq, o, O⟩ | ⟨s1, eq, o, hlt, hp, A2, R2⟩
  ·rw [eq] at ht
   simp only [o] at ht
   rw [if_pos trivial] at ht
   rw [ht]
   exact Or.inl ⟨O, rfl⟩
  ·rw [eq] at ht
   simp only [o, Bool.false_eq_true, if_false] at ht
   have A3 : Eqs E p { s1 with rank := (ansAt E (mNoted s 8 a (regOf x i.b)).pos).seen + 1 } { x with writes := putEnt x.writes a (regOf x i.b) } j { hPut i a h with rank := (ansAt E (mNoted s 8 a (regOf x i.b)).pos).seen + 1, st := .tShow } := ⟨A2.over, A2.pos, A2.lo, rfl, A2.fails, A2.list, A2.ends, A2.x, A2.job⟩
   generalize (ansAt E (mNoted s 8 a (regOf x i.b)).pos) = an at *
   rcases A3.ask R2 (q := ⟨3, cStatus E E.me, 0, 8 * (an.seen + 1)⟩) rfl with ⟨s2, eq2, o2, O⟩ | ⟨s2, eq2, o2, hlt2, hp2, A4, R4⟩
   ·rw [show ({ pos := s1.pos, over := false, next := s1.next, rank := an.seen + 1, fails := s1.fails, list := s1.list, ends := s1.ends } : LS) = { s1 with rank := an.seen + 1 } from by rw [← o], eq2] at ht
    simp only [o2] at ht
    rw [if_pos trivial] at ht
    rw [ht]
    exact Or.inl ⟨O, rfl⟩
   ·rw [show ({ pos := s1.pos, over := false, next := s1.next, rank := an.seen + 1, fails := s1.fails, list := s1.list, ends := s1.ends } : LS) = { s1 with rank := an.seen + 1 } from by rw [← o], eq2] at ht
    simp only [o2, Bool.false_eq_true, if_false] at ht
    generalize (ansAt E ({ s1 with rank := an.seen + 1 } : LS).pos) = an2 at *
    by_cases h2 : an2.seen ≠ 0
    ·rw [if_pos h2] at ht
     have hn2 : hNext E.cx { hPut i a h with rank := an.seen + 1, st := .tShow } an2 = hFail E.cx { hPut i a h with rank := an.seen + 1, st := .tShow } := if_pos h2
     rw [hn2] at R4
     rw [ht]
     exact Or.inr (Or.inl ⟨rfl, _, A4, R4⟩)
    ·rw [if_neg h2] at ht
     have hn2 : hNext E.cx { hPut i a h with rank := an.seen + 1, st := .tShow } an2 = hGo E.cx { hPut i a h with rank := an.seen + 1, st := .tShow } := if_neg h2
     rw [hn2] at R4
     rw [ht]
     exact Or.inr (Or.inr ⟨rfl, ⟨rfl, rfl⟩, _, A4, R4⟩)
def Stepped (E : Env) (p : Nat) (F : Th) (j : Nat) (x : TS) (t : Int × LS × TS) : Prop :=
 (Over E F t.2.1 ∧ t.1 = -1) ∨ (t.1 = 5 ∧ ∃ h', Eqs E p t.2.1 t.2.2 j h' ∧ Runs E F t.2.1.pos (hFail E.cx h')) ∨
  (t.1 = 0 ∧ (t.2.2.begun = x.begun + 1 ∧ t.2.2.inGate = x.inGate) ∧ ∃ h', Eqs E p t.2.1 t.2.2 j h' ∧ Runs E F t.2.1.pos (hGo E.cx h')) ∨
  ((t.1 = 1 ∨ t.1 = 2 ∨ t.1 = 3 ∨ t.1 = 4) ∧ t.2.2.inGate = x.inGate ∧ ∃ h', Eqs E p t.2.1 t.2.2 j h' ∧ Runs E F t.2.1.pos (hClose t.1 h'))
theorem fuel_lt (E : Env) (s : LS) : E.seen.length - s.pos < loopFuel E s := by unfold loopFuel; omega
theorem read_sim {E : Env} {p : Nat} {F : Th} {x y : TS} {j : Nat} {i : InsD} {s : LS} {h : Th} (A : Eqs E p s y j h) (hy : y.begun = x.begun + 1 ∧ y.inGate = x.inGate) (R : Runs E F s.pos (if (hRead E.cx i h).1 then hGo E.cx (hRead E.cx i h).2 else (hRead E.cx i h).2)) :
  Stepped E p F j x (mRead E s y i) := by
 unfold mRead
 unfold hRead at R
 obtain rfl := A.x
 simp only at R ⊢
 have ew : E.cx.c.wd = E.c.wd := rfl
 have es : E.cx.c.s = E.c.s := rfl
 rw [ew, es] at R
 by_cases h1 : E.c.wd ≤ regOf h.x i.b
 ·rw [if_pos h1] at R ⊢
  refine Or.inr (Or.inr (Or.inr ⟨by simp, hy.2, h, A, ?_⟩))
  simpa using R
 ·rw [if_neg h1] at R ⊢
  unfold mReadV
  simp only
  cases hk : entIdx h.x.writes (regOf h.x i.b) with
  | some k =>
   rw [hk] at R
   simp only [A.over, Bool.false_eq_true, if_false, ne_eq, not_true, if_true] at R ⊢
   refine Or.inr (Or.inr (Or.inl ⟨rfl, hy, _, (A.setx _).noted 7 _ _, R⟩))
  | none =>
   rw [hk] at R
   simp only [Bool.false_eq_true, if_false] at R ⊢
   by_cases h2 : heldB h.x ((regOf h.x i.b).tmod E.c.s) = true
   ·rw [if_pos h2] at R ⊢
    rcases (A.st (.rHeld i (regOf h.x i.b))).ask R (q := ⟨1, cWord E (regOf h.x i.b), 0, 0⟩) rfl with ⟨s1, eq, o, O⟩ | ⟨s1, eq, o, hlt, hp, A1, R1⟩
    ·rw [show mLoad E s (cWord E (regOf h.x i.b)) = _ from eq]
     simp only [o, if_true]
     exact Or.inl ⟨O, rfl⟩
    ·rw [show mLoad E s (cWord E (regOf h.x i.b)) = _ from eq]
     simp only [o, Bool.false_eq_true, if_false, ne_eq, not_true]
     refine Or.inr (Or.inr (Or.inl ⟨rfl, hy, _, (A1.setx _).noted 7 _ _, ?_⟩))
     have hn : hNext E.cx { h with st := .rHeld i (regOf h.x i.b) } (ansAt E s.pos) = hGo E.cx (({ h with x := setReg h.x i.a (ansAt E s.pos).seen, st := .rHeld i (regOf h.x i.b) } : Th).noted 7 (regOf h.x i.b) (ansAt E s.pos).seen) := by
      rfl
     rw [hn] at R1
     exact R1
   ·rw [if_neg h2] at R ⊢
    rcases stands_sim (i := i) (loopFuel E s) s _ (fuel_lt E s) (A.st (.rVer i (regOf h.x i.b))) rfl R with O | ⟨e, h', A1, R1⟩ | ⟨e, k, h', A1, R1⟩
    ·rw [if_pos O.over]
     exact Or.inl ⟨O, rfl⟩
    ·rw [if_neg (by rw [A1.over]; decide), if_pos (by rw [e]; decide)]
     exact Or.inr (Or.inl ⟨e, h', A1, R1⟩)
    ·rw [if_neg (by rw [A1.over]; decide), if_neg (by rw [e]; decide)]
     refine Or.inr (Or.inr (Or.inl ⟨rfl, ⟨k.1.trans hy.1, k.2.trans hy.2⟩, _, (A1.setx _).noted 7 _ _, ?_⟩))
     unfold hGot at R1
     rw [A1.x] at R1
     exact R1
theorem write_sim {E : Env} {p : Nat} {F : Th} {x y : TS} {j : Nat} {i : InsD} {s : LS} {h : Th} (A : Eqs E p s y j h) (hy : y.begun = x.begun + 1 ∧ y.inGate = x.inGate) (R : Runs E F s.pos (if (hWrite E.cx i h).1 then hGo E.cx (hWrite E.cx i h).2 else (hWrite E.cx i h).2)) :
  Stepped E p F j x (mWrite E s y i) := by
 unfold mWrite
 unfold hWrite at R
 obtain rfl := A.x
 simp only at R ⊢
 have ew : E.cx.c.wd = E.c.wd := rfl
 have es : E.cx.c.s = E.c.s := rfl
 rw [ew, es] at R
 by_cases h1 : E.c.wd ≤ regOf h.x i.a
 ·rw [if_pos h1] at R ⊢
  refine Or.inr (Or.inr (Or.inr ⟨by simp, hy.2, h, A, ?_⟩))
  simpa using R
 ·rw [if_neg h1] at R ⊢
  by_cases h2 : heldB h.x ((regOf h.x i.a).tmod E.c.s) = true
  ·rw [if_pos h2] at R ⊢
   simp only [if_true] at R
   unfold mWrote
   simp only [true_or, if_true]
   exact Or.inr (Or.inr (Or.inl ⟨rfl, hy, _, A.put i _, R⟩))
  ·rw [if_neg h2] at R ⊢
   simp only [Bool.false_eq_true, if_false] at R
   rcases get_sim (i := i) (loopFuel E s) s _ (fuel_lt E s) (A.st (.gStat i (regOf h.x i.a))) rfl R with ⟨O, e⟩ | ⟨e, h', A1, R1⟩ | ⟨e, k, h', A1, R1⟩
   ·rw [if_pos (by rw [e]; decide)]
    exact Or.inl ⟨O, e⟩
   ·rw [if_pos (by rw [e]; decide)]
    exact Or.inr (Or.inl ⟨e, h', A1, R1⟩)
   ·rw [if_neg (by rw [e]; decide)]
    rcases wrote_sim A1 R1 with ⟨O, e⟩ | ⟨e, h2, A2, R2⟩ | ⟨e, k2, h2, A2, R2⟩
    ·exact Or.inl ⟨O, e⟩
    ·exact Or.inr (Or.inl ⟨e, h2, A2, R2⟩)
    ·exact Or.inr (Or.inr (Or.inl ⟨e, ⟨k2.1.trans (k.1.trans hy.1), k2.2.trans (k.2.trans hy.2)⟩, h2, A2, R2⟩))
theorem step_sim {E : Env} {p : Nat} {F : Th} {x : TS} {j : Nat} {s : LS} {h : Th} (A : Eqs E p s x j h) (R : Runs E F s.pos (if (hStep E.cx h).1 then hGo E.cx (hStep E.cx h).2 else (hStep E.cx h).2)) :
  Stepped E p F j x (mStep E s x) := by
 unfold mStep
 unfold hStep at R
 rw [A.x] at R
 simp only at R ⊢
 have ef : E.cx.c.f = E.c.f := rfl
 rw [ef] at R
 have fate : ∀ (e : Int) (y : TS) (g : Th), (e = 1 ∨ e = 2 ∨ e = 3 ∨ e = 4) → y.inGate = x.inGate → Eqs E p s y j g → Runs E F s.pos (hClose e g) → Stepped E p F j x (e, s, y) := fun e y g he hg A R => Or.inr (Or.inr (Or.inr ⟨he, hg, g, A, R⟩))
 have pure : ∀ (y : TS) (g : Th), y.begun = x.begun + 1 → y.inGate = x.inGate → Eqs E p s y j g → Runs E F s.pos (hGo E.cx g) → Stepped E p F j x (0, s, y) := fun y g he hg A R => Or.inr (Or.inr (Or.inl ⟨rfl, ⟨he, hg⟩, g, A, R⟩))
 by_cases h1 : x.place = x.code.length
 ·rw [if_pos h1] at R ⊢
  exact fate 1 x h (by simp) rfl A (by simpa using R)
 rw [if_neg h1] at R ⊢
 by_cases h2 : (x.begun : Int) = E.c.f
 ·rw [if_pos h2] at R ⊢
  exact fate 4 x h (by simp) rfl A (by simpa using R)
 rw [if_neg h2] at R ⊢
 generalize insAt x.code x.place = i at *
 by_cases h3 : formedB i x.code.length = false
 ·rw [if_pos h3] at R ⊢
  exact fate 3 _ _ (by simp) rfl (A.setx _) (by simpa using R)
 rw [if_neg h3] at R ⊢
 by_cases o0 : i.op = 0
 ·rw [if_pos o0] at R ⊢
  exact fate 1 _ _ (by simp) rfl (A.setx _) (by simpa using R)
 rw [if_neg o0] at R ⊢
 by_cases o1 : i.op = 1
 ·rw [if_pos o1] at R ⊢
  exact fate 2 _ _ (by simp) rfl (A.setx _) (by simpa using R)
 rw [if_neg o1] at R ⊢
 by_cases o2 : i.op = 2
 ·rw [if_pos o2] at R ⊢
  exact pure _ _ rfl rfl (A.setx _) (by simpa using R)
 rw [if_neg o2] at R ⊢
 by_cases o3 : i.op = 3
 ·rw [if_pos o3] at R ⊢
  exact pure _ _ rfl rfl (A.setx _) (by simpa using R)
 rw [if_neg o3] at R ⊢
 by_cases o4 : i.op = 4
 ·rw [if_pos o4] at R ⊢
  exact pure _ _ rfl rfl (A.setx _) (by simpa using R)
 rw [if_neg o4] at R ⊢
 by_cases o5 : i.op = 5
 ·rw [if_pos o5] at R ⊢
  exact pure _ _ rfl rfl (A.setx _) (by simpa using R)
 rw [if_neg o5] at R ⊢
 by_cases o6 : i.op = 6
 ·rw [if_pos o6] at R ⊢
  refine pure _ _ ?_ ?_ (A.setx _) (by simpa using R)
  ·split <;> rfl
  ·split <;> rfl
 rw [if_neg o6] at R ⊢
 by_cases o7 : i.op = 7
 ·rw [if_pos o7] at R ⊢
  exact read_sim (A.setx _) ⟨rfl, rfl⟩ R
 ·rw [if_neg o7] at R ⊢
  exact write_sim (A.setx _) ⟨rfl, rfl⟩ R
theorem hStep_begun (K : Cx) (h : Th) (hb : (hStep K h).1 = true) : (h.x.begun : Int) ≠ K.c.f ∧ (hStep K h).2.x.begun = h.x.begun + 1 := by
 unfold hStep at hb ⊢
 by_cases h1 : h.x.place = h.x.code.length
 ·rw [if_pos h1] at hb; cases hb
 rw [if_neg h1] at hb ⊢
 by_cases h2 : (h.x.begun : Int) = K.c.f
 ·rw [if_pos h2] at hb; cases hb
 rw [if_neg h2] at hb ⊢
 refine ⟨h2, ?_⟩
 simp only at hb ⊢
 generalize insAt h.x.code h.x.place = i at *
 by_cases h3 : formedB i h.x.code.length = false
 ·rw [if_pos h3] at hb; cases hb
 rw [if_neg h3] at hb ⊢
 by_cases o0 : i.op = 0
 ·rw [if_pos o0] at hb; cases hb
 rw [if_neg o0] at hb ⊢
 by_cases o1 : i.op = 1
 ·rw [if_pos o1] at hb; cases hb
 rw [if_neg o1] at hb ⊢
 by_cases o2 : i.op = 2
 ·rw [if_pos o2]; rfl
 rw [if_neg o2] at hb ⊢
 by_cases o3 : i.op = 3
 ·rw [if_pos o3]; rfl
 rw [if_neg o3] at hb ⊢
 by_cases o4 : i.op = 4
 ·rw [if_pos o4]; rfl
 rw [if_neg o4] at hb ⊢
 by_cases o5 : i.op = 5
 ·rw [if_pos o5]
 rw [if_neg o5] at hb ⊢
 by_cases o6 : i.op = 6
 ·rw [if_pos o6]
  show (if _ then _ else _ : TS).begun = _
  split <;> rfl
 rw [if_neg o6] at hb ⊢
 by_cases o7 : i.op = 7
 ·rw [if_pos o7] at hb ⊢
  unfold hRead at hb ⊢
  simp only at hb ⊢
  split at hb
  ·cases hb
  ·rename_i hw
   rw [if_neg hw]
   cases hk : entIdx h.x.writes (regOf { h.x with begun := h.x.begun + 1, place := h.x.place + 1 } i.b) with
   | none => rw [hk] at hb; cases hb
   | some k => rfl
 ·rw [if_neg o7] at hb ⊢
  unfold hWrite at hb ⊢
  simp only at hb ⊢
  split at hb
  ·cases hb
  ·rename_i hw
   rw [if_neg hw]
   split at hb
   ·rename_i hh
    rw [if_pos hh]
    rfl
   ·cases hb
theorem hGo_eq (K : Cx) (h : Th) (hb : (h.x.begun : Int) ≤ K.c.f) : hGo K h = if (hStep K h).1 then hGo K (hStep K h).2 else (hStep K h).2 := by
 have e : K.c.f.toNat + 1 - h.x.begun = (K.c.f.toNat - h.x.begun) + 1 := by omega
 unfold hGo
 rw [e]
 show (if (hStep K h).1 then hAdv K _ (hStep K h).2 else (hStep K h).2) = _
 by_cases hs : (hStep K h).1 = true
 ·obtain ⟨h1, h2⟩ := hStep_begun K h hs
  rw [if_pos hs, if_pos hs, h2]
  congr 1
  omega
 ·rw [if_neg hs, if_neg hs]
theorem steps_sim {E : Env} {p : Nat} {F : Th} {j : Nat} : ∀ (n : Nat) (s : LS) (x : TS) (h : Th), Eqs E p s x j h → (x.begun : Int) ≤ E.c.f → E.c.f.toNat - x.begun < n → x.inGate = false → Runs E F s.pos (hGo E.cx h) →
  let t := mSteps E n s x
  (Over E F t.2.1 ∧ t.1 = -1) ∨ (t.1 = 5 ∧ ∃ h', Eqs E p t.2.1 t.2.2 j h' ∧ Runs E F t.2.1.pos (hFail E.cx h')) ∨
   ((t.1 = 1 ∨ t.1 = 2 ∨ t.1 = 3 ∨ t.1 = 4) ∧ t.2.2.inGate = false ∧ ∃ h', Eqs E p t.2.1 t.2.2 j h' ∧ Runs E F t.2.1.pos (hClose t.1 h'))
 | 0, s, x, h, A, hb, hn, hg, R => absurd hn (Nat.not_lt_zero _)
 | n + 1, s, x, h, A, hb, hn, hg, R => by
  intro t
  have ht : t = mSteps E (n + 1) s x := rfl
  unfold mSteps at ht
  simp only at ht
  have hb' : (h.x.begun : Int) ≤ E.cx.c.f := by rw [A.x]; exact hb
  rw [hGo_eq E.cx h hb'] at R
  by_cases hf : (h.x.begun : Int) = E.cx.c.f ∧ (hStep E.cx h).1 = true
  ·exact absurd hf.1 (hStep_begun E.cx h hf.2).1
  rcases step_sim A R with ⟨O, e⟩ | ⟨e, h', A1, R1⟩ | ⟨e, k, h', A1, R1⟩ | ⟨e, g, h', A1, R1⟩
  ·rw [if_neg (by rw [e]; decide)] at ht
   rw [ht]
   exact Or.inl ⟨O, e⟩
  ·rw [if_neg (by rw [e]; decide)] at ht
   rw [ht]
   exact Or.inr (Or.inl ⟨e, h', A1, R1⟩)
  ·rw [if_pos e] at ht
   rw [ht]
   have hne : (x.begun : Int) ≠ E.c.f := by
    intro hx
    have : (mStep E s x).1 = 4 ∨ (mStep E s x).1 = 1 := by
     unfold mStep
     by_cases h1 : x.place = x.code.length
     ·rw [if_pos h1]; exact Or.inr rfl
     ·rw [if_neg h1, if_pos hx]; exact Or.inl rfl
    rcases this with h | h <;> rw [e] at h <;> cases h
   exact steps_sim n _ _ h' A1 (by rw [k.1]; omega) (by rw [k.1]; omega) (k.2.trans hg) R1
  ·rw [if_neg (by rcases e with e | e | e | e <;> rw [e] <;> decide)] at ht
   rw [ht]
   exact Or.inr (Or.inr ⟨e, g.trans hg, h', A1, R1⟩)
end Go.Proofs.YtejadojilncbjaaGreat
