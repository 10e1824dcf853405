import Derived.Test.YtejadojilncbjaaStands
namespace Go.Proofs.Ytejadojilncbjaa
open Go.RowKit
set_option linter.unusedVariables false
attribute [local go_sem ↓] Go.wp_at_zero Go.wp_at_succ

def shutStep (E : Env) (s : LS) (h : Int) : LS := (mStore E s (cVersion E h) (-1)).2
def writeStep (E : Env) (s : LS) (e : EntD) : LS := (mStore E s (cWord E e.what) e.val).2
def openStep (E : Env) (c : Int) (s : LS) (h : Int) : LS := (mStore E (mStore E s (cVersion E h) (c + 1)).2 (cOwner E h) 0).2

theorem shutStep_pos (E : Env) (s : LS) (h : Int) (hp : s.pos ≤ E.seen.length) : s.pos ≤ (shutStep E s h).pos ∧ (shutStep E s h).pos ≤ E.seen.length := mAsk_pos E s _ hp
theorem writeStep_pos (E : Env) (s : LS) (e : EntD) (hp : s.pos ≤ E.seen.length) : s.pos ≤ (writeStep E s e).pos ∧ (writeStep E s e).pos ≤ E.seen.length := mAsk_pos E s _ hp
theorem openStep_pos (E : Env) (c : Int) (s : LS) (h : Int) (hp : s.pos ≤ E.seen.length) : s.pos ≤ (openStep E c s h).pos ∧ (openStep E c s h).pos ≤ E.seen.length := by
  have h1 := mAsk_pos E s ⟨2, cVersion E h, 0, c + 1⟩ hp
  have h2 := mAsk_pos E (mStore E s (cVersion E h) (c + 1)).2 ⟨2, cOwner E h, 0, 0⟩ h1.2
  exact ⟨Nat.le_trans h1.1 h2.1, h2.2⟩
theorem foldl_list {α : Type} (f : LS → α → LS) (hf : ∀ s a, (f s a).list = s.list) : ∀ (l : List α) (s : LS), (l.foldl f s).list = s.list
  | [], s => rfl
  | a :: l, s => (foldl_list f hf l (f s a)).trans (hf s a)

theorem mCommit_mark (E : Env) (s : LS) (x : TS) {v1 : Int} {s1 : LS} (e1 : mLoad E s (cStatus E E.me) = (v1, s1)) (h : s1.over = false ∧ 0 < v1.tmod 8) : mCommit E s x = (5, s1, x) := by
  unfold mCommit
  simp only [e1]
  exact if_pos h

theorem mGate_stop (E : Env) (n : Nat) (s : LS) (x : TS) (h : s.over = true ∨ x.inGate = true) : mGate E n s x = (s, x) := by
  cases n with
  | zero => rfl
  | succ n => rw [mGate, if_pos h]

theorem mGate_step (E : Env) (n : Nat) (s : LS) (x : TS) (h : ¬ (s.over = true ∨ x.inGate = true)) {v : Int} {s1 : LS} (e : mAsk E s ⟨3, 2, 0, E.me + 1⟩ = (v, s1)) : mGate E (n + 1) s x = mGate E n s1 { x with inGate := v == 0 } := by
  rw [mGate, if_neg h]
  simp only [e]

theorem mCommit_dead (E : Env) (s : LS) (x : TS) {v1 : Int} {s1 : LS} (e1 : mLoad E s (cStatus E E.me) = (v1, s1)) (h : s1.over = true) : mCommit E s x = (-1, s1, x) := by
  unfold mCommit
  simp only [e1]
  rw [if_neg (by simp [h]), mGate_stop E _ s1 x (Or.inl h)]
  show (if (mLoad E s1 0).2.over = true then _ else _) = _
  rw [show mLoad E s1 0 = (0, s1) from mAsk_dead h]
  exact if_pos h

/-- Behind the gate. -/
def mGated (E : Env) (s : LS) (x : TS) : Int × LS × TS :=
  let q2 := mLoad E s 0
  if q2.2.over then (-1, q2.2, x) else
    let t := if q2.1 ≠ x.valid then mStill E x true x.reads q2.2 else (0, q2.2)
    if t.1 ≠ 0 then (t.1, t.2, x) else
      let s1 := x.held.foldl (shutStep E) t.2
      let q3 := mStore E s1 0 (q2.1 + 1)
      if q3.2.over then (-1, q3.2, x) else
        let s2 := { q3.2 with list := modLast q3.2.list fun a => { a with stamp := q2.1 + 1 } }
        let s3 := (mStore E s2 2 0).2
        let s4 := x.writes.foldl (writeStep E) s3
        let s5 := x.held.foldl (openStep E q2.1) s4
        (1, s5, x)

theorem mCommit_gate (E : Env) (s : LS) (x : TS) {v1 : Int} {s1 : LS} (e1 : mLoad E s (cStatus E E.me) = (v1, s1)) (h : ¬ (s1.over = false ∧ 0 < v1.tmod 8)) :
    mCommit E s x = mGated E (mGate E (loopFuel E s1) s1 x).1 (mGate E (loopFuel E s1) s1 x).2 := by
  unfold mCommit mGated
  simp only [e1]
  rw [if_neg h]
  rfl

end Go.Proofs.Ytejadojilncbjaa
