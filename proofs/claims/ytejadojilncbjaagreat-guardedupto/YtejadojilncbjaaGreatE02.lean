import Derived.Test.YtejadojilncbjaaGreatE01
import Derived.Deep.LoopGhost
namespace Go.Proofs.YtejadojilncbjaaGreat
open Go.RowKit
set_option linter.unusedVariables false
attribute [local go_sem ↓] Go.wp_at_zero Go.wp_at_succ

theorem wrapP (n : Int) (h1 : -1152921504606846976 ≤ n) (h2 : n ≤ 1152921504606846976) : IntKind.i64.wrap n = n := by rw [IntKind.wrap_i64]; omega

theorem isReg_any (v : Int) (w : World) : Calls Tryz.prog 171 #[.int .i64 v] w fun e w' => e = .returned (.bool (inB v 0 3)) ∧ w' = w := by
  go_enter Tryz.func171, Tryz.ntmps171
  go_wp2_with (go_at_call 75; refine (within_any _ _ _ _).mono ?_; rintro e w' ⟨rfl, rfl⟩)
  go_ret
  exact ⟨rfl, rfl⟩

theorem sum_any (a b : Int) (w : World) (h1 : 0 ≤ a ∧ a ≤ 65535) (h2 : 0 ≤ b ∧ b ≤ 65535) : Calls Tryz.prog 172 #[.int .i64 a, .int .i64 b] w fun e w' => e = .returned (.int .i64 ((a + b).tmod 65536)) ∧ w' = w := by
  obtain ⟨h1, h1'⟩ := h1
  obtain ⟨h2, h2'⟩ := h2
  have hw : IntKind.i64.wrap (a + b) = a + b := wrapP _ (by omega) (by omega)
  have hw2 : IntKind.i64.wrap (a + b - 65536) = a + b - 65536 := wrapP _ (by omega) (by omega)
  have he : (a + b).tmod 65536 = if 65535 < a + b then a + b - 65536 else a + b := by
    rw [Int.tmod_eq_emod_of_nonneg (by omega)]
    split <;> omega
  have HE : Hid ((a + b).tmod 65536 = if 65535 < a + b then a + b - 65536 else a + b) := he
  clear he
  by_cases h : 65535 < a + b
  · go_enter Tryz.func172, Tryz.ntmps172
    go_wp2
    go_ret
    exact ⟨by rw [HE.out, if_pos h]; rfl, rfl⟩
  · go_enter Tryz.func172, Tryz.ntmps172
    go_wp2
    go_ret
    exact ⟨by rw [HE.out, if_neg (by omega)]; rfl, rfl⟩

theorem diff_any (a b : Int) (w : World) (h1 : 0 ≤ a ∧ a ≤ 65535) (h2 : 0 ≤ b ∧ b ≤ 65535) : Calls Tryz.prog 173 #[.int .i64 a, .int .i64 b] w fun e w' => e = .returned (.int .i64 ((a + 65535 + 1 - b).tmod 65536)) ∧ w' = w := by
  obtain ⟨h1, h1'⟩ := h1
  obtain ⟨h2, h2'⟩ := h2
  have hw : IntKind.i64.wrap (a - b) = a - b := wrapP _ (by omega) (by omega)
  have hw2 : IntKind.i64.wrap (a - b + 65536) = a - b + 65536 := wrapP _ (by omega) (by omega)
  have he : (a + 65535 + 1 - b).tmod 65536 = if a - b < 0 then a - b + 65536 else a - b := by
    rw [Int.tmod_eq_emod_of_nonneg (by omega)]
    split <;> omega
  have HE : Hid ((a + 65535 + 1 - b).tmod 65536 = if a - b < 0 then a - b + 65536 else a - b) := he
  clear he
  by_cases h : a - b < 0
  · go_enter Tryz.func173, Tryz.ntmps173
    go_wp2
    go_ret
    exact ⟨by rw [HE.out, if_pos h]; rfl, rfl⟩
  · go_enter Tryz.func173, Tryz.ntmps173
    go_wp2
    go_ret
    exact ⟨by rw [HE.out, if_neg (by omega)]; rfl, rfl⟩

set_option maxHeartbeats 2000000 in
theorem wellFormed_core (op a b c n : Int) (w : World) :
    Calls Tryz.prog 156 #[.agg #[.int .i64 op, .int .i64 a, .int .i64 b, .int .i64 c], .int .i64 n] w fun e w' =>
      e = .returned (.bool (formedB ⟨op, a, b, c⟩ n)) ∧ Below w.heap.size w w' := by
  by_cases h0 : op = 0
  · subst h0
    go_enter Tryz.func156, Tryz.ntmps156
    go_wp2_with (first | (go_at_call 75; refine (within_any _ _ _ _).mono ?_; rintro e w' ⟨rfl, rfl⟩) | (go_at_call 171; refine (isReg_any _ _).mono ?_; rintro e w' ⟨rfl, rfl⟩))
    all_goals
      go_ret
      exact ⟨by simp [formedB, *], (Below.refl _ _).alloc (Nat.le_refl _) _⟩
  by_cases h1 : op = 1
  · subst h1
    go_enter Tryz.func156, Tryz.ntmps156
    go_wp2_with (first | (go_at_call 75; refine (within_any _ _ _ _).mono ?_; rintro e w' ⟨rfl, rfl⟩) | (go_at_call 171; refine (isReg_any _ _).mono ?_; rintro e w' ⟨rfl, rfl⟩))
    all_goals
      go_ret
      exact ⟨by simp [formedB, *], (Below.refl _ _).alloc (Nat.le_refl _) _⟩
  by_cases h2 : op = 2
  · subst h2
    go_enter Tryz.func156, Tryz.ntmps156
    go_wp2_with (first | (go_at_call 75; refine (within_any _ _ _ _).mono ?_; rintro e w' ⟨rfl, rfl⟩) | (go_at_call 171; refine (isReg_any _ _).mono ?_; rintro e w' ⟨rfl, rfl⟩))
    all_goals
      go_ret
      exact ⟨by simp [formedB, *], (Below.refl _ _).alloc (Nat.le_refl _) _⟩
  by_cases h3 : op = 3
  · subst h3
    go_enter Tryz.func156, Tryz.ntmps156
    go_wp2_with (first | (go_at_call 75; refine (within_any _ _ _ _).mono ?_; rintro e w' ⟨rfl, rfl⟩) | (go_at_call 171; refine (isReg_any _ _).mono ?_; rintro e w' ⟨rfl, rfl⟩))
    all_goals
      go_ret
      exact ⟨by simp [formedB, *], (Below.refl _ _).alloc (Nat.le_refl _) _⟩
  by_cases h4 : op = 4
  · subst h4
    go_enter Tryz.func156, Tryz.ntmps156
    go_wp2_with (first | (go_at_call 75; refine (within_any _ _ _ _).mono ?_; rintro e w' ⟨rfl, rfl⟩) | (go_at_call 171; refine (isReg_any _ _).mono ?_; rintro e w' ⟨rfl, rfl⟩))
    all_goals
      go_ret
      exact ⟨by simp [formedB, *], (Below.refl _ _).alloc (Nat.le_refl _) _⟩
  by_cases h5 : op = 5
  · subst h5
    go_enter Tryz.func156, Tryz.ntmps156
    go_wp2_with (first | (go_at_call 75; refine (within_any _ _ _ _).mono ?_; rintro e w' ⟨rfl, rfl⟩) | (go_at_call 171; refine (isReg_any _ _).mono ?_; rintro e w' ⟨rfl, rfl⟩))
    all_goals
      go_ret
      exact ⟨by simp [formedB, *], (Below.refl _ _).alloc (Nat.le_refl _) _⟩
  by_cases h6 : op = 6
  · subst h6
    go_enter Tryz.func156, Tryz.ntmps156
    go_wp2_with (first | (go_at_call 75; refine (within_any _ _ _ _).mono ?_; rintro e w' ⟨rfl, rfl⟩) | (go_at_call 171; refine (isReg_any _ _).mono ?_; rintro e w' ⟨rfl, rfl⟩))
    all_goals
      go_ret
      exact ⟨by simp [formedB, *], (Below.refl _ _).alloc (Nat.le_refl _) _⟩
  by_cases h7 : op = 7
  · subst h7
    go_enter Tryz.func156, Tryz.ntmps156
    go_wp2_with (first | (go_at_call 75; refine (within_any _ _ _ _).mono ?_; rintro e w' ⟨rfl, rfl⟩) | (go_at_call 171; refine (isReg_any _ _).mono ?_; rintro e w' ⟨rfl, rfl⟩))
    all_goals
      go_ret
      exact ⟨by simp [formedB, *], (Below.refl _ _).alloc (Nat.le_refl _) _⟩
  by_cases h8 : op = 8
  · subst h8
    go_enter Tryz.func156, Tryz.ntmps156
    go_wp2_with (first | (go_at_call 75; refine (within_any _ _ _ _).mono ?_; rintro e w' ⟨rfl, rfl⟩) | (go_at_call 171; refine (isReg_any _ _).mono ?_; rintro e w' ⟨rfl, rfl⟩))
    all_goals
      go_ret
      exact ⟨by simp [formedB, *], (Below.refl _ _).alloc (Nat.le_refl _) _⟩
  have HF : Hid (formedB ⟨op, a, b, c⟩ n = false) := by
    show formedB _ _ = false
    simp [formedB, h0, h1, h2, h3, h4, h5, h6, h7, h8]
  have g0 : (op == 0) = false := by simpa using h0
  have g1 : (op == 1) = false := by simpa using h1
  have g2 : (op == 2) = false := by simpa using h2
  have g3 : (op == 3) = false := by simpa using h3
  have g4 : (op == 4) = false := by simpa using h4
  have g5 : (op == 5) = false := by simpa using h5
  have g6 : (op == 6) = false := by simpa using h6
  have g7 : (op == 7) = false := by simpa using h7
  have g8 : (op == 8) = false := by simpa using h8
  clear h0 h1 h2 h3 h4 h5 h6 h7 h8
  go_enter Tryz.func156, Tryz.ntmps156
  go_wp2
  go_ret
  exact ⟨by rw [HF.out]; rfl, (Below.refl _ _).alloc (Nat.le_refl _) _⟩

end Go.Proofs.YtejadojilncbjaaGreat

namespace Go.Proofs.YtejadojilncbjaaGreat
open Go.RowKit
set_option linter.unusedVariables false
attribute [local go_sem ↓] Go.wp_at_zero Go.wp_at_succ

/-- The program's machine. -/
structure MS where
  regs : List Int
  place : Nat
  begun : Nat
  into : Int

def mArr (m : MS) : Array Value := #[.int .i64 (m.regs.getD 0 0), .int .i64 (m.regs.getD 1 0), .int .i64 (m.regs.getD 2 0), .int .i64 (m.regs.getD 3 0), .int .i64 m.place, .int .i64 m.begun, .int .i64 m.into]

end Go.Proofs.YtejadojilncbjaaGreat

namespace Go.Proofs.YtejadojilncbjaaGreat
open Go.RowKit
set_option linter.unusedVariables false

def MOk (m : MS) : Prop := m.regs.length = 4 ∧ ∀ v ∈ m.regs, 0 ≤ v ∧ v ≤ 65535
def mReg (m : MS) (i : Int) : Int := m.regs.getD i.toNat 0

/-- An instruction that needs nothing but the registers. -/
def pComp (m : MS) (i : InsD) : MS :=
  if i.op = 2 then { m with regs := m.regs.set i.a.toNat i.b }
  else if i.op = 3 then { m with regs := m.regs.set i.a.toNat ((mReg m i.b + mReg m i.c).tmod 65536) }
  else if i.op = 4 then { m with regs := m.regs.set i.a.toNat ((mReg m i.b + 65535 + 1 - mReg m i.c).tmod 65536) }
  else if i.op = 5 then { m with place := i.c.toNat }
  else if mReg m i.a < mReg m i.b then { m with place := i.c.toNat } else m

theorem formed2 {i : InsD} {n : Int} (h : formedB i n = true) (o : i.op = 2) : (0 ≤ i.a ∧ i.a ≤ 3) ∧ (0 ≤ i.b ∧ i.b ≤ 65535) := by
  simp [formedB, o, inB] at h
  omega
theorem formed34 {i : InsD} {n : Int} (h : formedB i n = true) (o : i.op = 3 ∨ i.op = 4) : (0 ≤ i.a ∧ i.a ≤ 3) ∧ (0 ≤ i.b ∧ i.b ≤ 3) ∧ (0 ≤ i.c ∧ i.c ≤ 3) := by
  unfold formedB at h
  rw [if_neg (by omega), if_neg (by omega), if_pos o] at h
  simp [inB] at h
  omega
theorem formed5 {i : InsD} {n : Int} (h : formedB i n = true) (o : i.op = 5) : 0 ≤ i.c ∧ i.c ≤ n := by
  simp [formedB, o, inB] at h
  omega
theorem formed6 {i : InsD} {n : Int} (h : formedB i n = true) (o : i.op = 6) : (0 ≤ i.a ∧ i.a ≤ 3) ∧ (0 ≤ i.b ∧ i.b ≤ 3) ∧ (0 ≤ i.c ∧ i.c ≤ n) := by
  simp [formedB, o, inB] at h
  omega
theorem formed78 {i : InsD} {n : Int} (h : formedB i n = true) (o : i.op = 7 ∨ i.op = 8) : (0 ≤ i.a ∧ i.a ≤ 3) ∧ (0 ≤ i.b ∧ i.b ≤ 3) := by
  unfold formedB at h
  rw [if_neg (by omega), if_neg (by omega), if_neg (by omega), if_neg (by omega), if_neg (by omega), if_pos o] at h
  simp [inB] at h
  omega
theorem formed_op {i : InsD} {n : Int} (h : formedB i n = true) : 0 ≤ i.op ∧ i.op ≤ 8 := by
  unfold formedB at h
  by_cases h1 : i.op = 0 ∨ i.op = 1
  · omega
  rw [if_neg h1] at h
  by_cases h2 : i.op = 2
  · omega
  rw [if_neg h2] at h
  by_cases h3 : i.op = 3 ∨ i.op = 4
  · omega
  rw [if_neg h3] at h
  by_cases h5 : i.op = 5
  · omega
  rw [if_neg h5] at h
  by_cases h6 : i.op = 6
  · omega
  rw [if_neg h6] at h
  by_cases h7 : i.op = 7 ∨ i.op = 8
  · omega
  rw [if_neg h7] at h
  cases h

/-- What Next tells. -/
structure TurnD where
  fate : Int
  op : Int
  addr : Int
  val : Int

def turnCells (t : TurnD) : Array Value := #[.int .i64 t.fate, .int .i64 t.op, .int .i64 t.addr, .int .i64 t.val]

/-- A Read or Write comes up. -/
def pWord (wd : Int) (m : MS) (i : InsD) : TurnD × MS :=
  if i.op = 7 then ((if inB (mReg m i.b) 0 (wd - 1) then ⟨0, 7, mReg m i.b, 0⟩ else ⟨3, 0, 0, 0⟩), { m with into := i.a })
  else ((if inB (mReg m i.a) 0 (wd - 1) then ⟨0, 8, mReg m i.a, mReg m i.b⟩ else ⟨3, 0, 0, 0⟩), m)

/-- Next. -/
def pNext (f wd : Int) (code : List InsD) : Nat → MS → TurnD × MS
  | 0, m => (⟨0, 0, 0, 0⟩, m)
  | n + 1, m =>
    if code.length ≤ m.place then (⟨1, 0, 0, 0⟩, m) else if f ≤ m.begun then (⟨4, 0, 0, 0⟩, m) else
      let i := insAt code m.place
      if formedB i code.length = false then (⟨3, 0, 0, 0⟩, { m with begun := m.begun + 1 }) else
        let m2 : MS := { m with begun := m.begun + 1, place := m.place + 1 }
        if i.op = 0 then (⟨1, 0, 0, 0⟩, m2) else if i.op = 1 then (⟨2, 0, 0, 0⟩, m2) else if i.op = 7 ∨ i.op = 8 then pWord wd m2 i else pNext f wd code n (pComp m2 i)

theorem MOk.comp {m : MS} {i : InsD} {n : Int} (h : MOk m) (hf : formedB i n = true) (ho : 2 ≤ i.op ∧ i.op ≤ 6) : MOk (pComp m i) := by
  have hreg : ∀ k : Int, 0 ≤ mReg m k ∧ mReg m k ≤ 65535 := fun k => by
    unfold mReg
    by_cases hk : k.toNat < m.regs.length
    · rw [show m.regs.getD k.toNat 0 = m.regs[k.toNat] from by simp [List.getD, List.getElem?_eq_getElem hk]]
      exact h.2 _ (List.getElem_mem hk)
    · rw [show m.regs.getD k.toNat 0 = 0 from by simp [List.getD, List.getElem?_eq_none (Nat.le_of_not_lt hk)]]
      omega
  have hset : ∀ (k : Nat) (v : Int), 0 ≤ v → v ≤ 65535 → MOk { m with regs := m.regs.set k v } := fun k v h0 h1 => by
    refine ⟨by simp [h.1], fun u hu => ?_⟩
    rcases List.mem_or_eq_of_mem_set hu with h2 | h2
    · exact h.2 u h2
    · omega
  have hmod : ∀ v : Int, 0 ≤ v → 0 ≤ v.tmod 65536 ∧ v.tmod 65536 ≤ 65535 := fun v hv => ⟨Int.tmod_nonneg _ hv, by have := Int.tmod_lt_of_pos v (b := 65536) (by omega); omega⟩
  unfold pComp
  split
  · rename_i o
    obtain ⟨_, b0, b1⟩ := formed2 hf o
    exact hset _ _ b0 b1
  split
  · have h1 := hreg i.b
    have h2 := hreg i.c
    have := hmod (mReg m i.b + mReg m i.c) (by omega)
    exact hset _ _ this.1 this.2
  split
  · have h1 := hreg i.b
    have h2 := hreg i.c
    have := hmod (mReg m i.b + 65535 + 1 - mReg m i.c) (by omega)
    exact hset _ _ this.1 this.2
  split
  · exact h
  split
  · exact h
  · exact h

end Go.Proofs.YtejadojilncbjaaGreat

namespace Go.Proofs.YtejadojilncbjaaGreat
set_option linter.unusedVariables false

/-! A thread as a machine with states: what it asks next, and what follows what it sees. It keeps its state from pick to pick; that it does what the document's life tells is shown in the texts behind this one. -/

/-- What a pick brings: what was seen, its draw, its number. -/
structure AnsD where
  seen : Int
  draw : Int
  num : Int

/-- What does not change. -/
structure Cx where
  c : Cfg
  me : Int
  jobs : List (Int × List InsD)

def hVer (s : Int) : Int := 3 + s
def hOwn (K : Cx) (s : Int) : Int := 3 + K.c.s + s
def hSta (K : Cx) (t : Int) : Int := 3 + 2 * K.c.s + t
def hWrd (K : Cx) (a : Int) : Int := 3 + 2 * K.c.s + K.c.t + a

/-- What follows an extension: a Read, or a Write whose stripe was just got. -/
inductive Ex where
  | rd (i : InsD) (a v : Int)
  | wr (i : InsD) (a : Int)

/-- What the next access is for. -/
inductive St where
  | idle
  | start
  | rHeld (i : InsD) (a : Int)
  | rVer (i : InsD) (a : Int)
  | rWord (i : InsD) (a one : Int)
  | rAgain (i : InsD) (a one v : Int)
  | xClock (k : Ex)
  | xVer (k : Ex) (c : Int) (r : List EntD)
  | gStat (i : InsD) (a : Int)
  | gOwn (i : InsD) (a : Int)
  | gTheir (i : InsD) (a u : Int)
  | gMark (i : InsD) (a u th : Int)
  | gVer (i : InsD) (a : Int)
  | tTake
  | tShow
  | cStat
  | cGate
  | cClock
  | cVer (c : Int) (r : List EntD)
  | cShut (c : Int) (r : List Int)
  | cStamp (c : Int)
  | cLeave (c : Int)
  | cWord (c : Int) (r : List EntD)
  | cOpen (c : Int) (r : List Int)
  | cOwn (c : Int) (r : List Int)
  | free (e : Int) (r : List Int)
  | fin (e : Int)
  | fGate
  | fOwn (r : List Int)
  | fTake
  | fStat
  | wait (win : Int)
  | rest (n : Nat)

/-- A thread and how far it has come. -/
structure Th where
  rank : Int
  fails : Int
  list : List AttD
  ends : List ResD
  job : Nat
  x : TS
  st : St

def Th.noted (h : Th) (op a v : Int) : Th := { h with list := modLast h.list fun t => { t with notes := t.notes ++ [⟨op, a, v⟩] } }
def Th.ended (h : Th) (num fate : Int) : Th := { h with list := modLast h.list fun t => { t with fin := num, fate := fate } }

/-- The next job of the thread, from place j on. -/
def seek (me : Int) : Nat → List (Int × List InsD) → Option Nat
  | _, [] => none
  | j, b :: r => if b.1 = me then some j else seek me (j + 1) r

def hTo (K : Cx) (j : Nat) (h : Th) : Th := match seek K.me j (K.jobs.drop j) with
  | some k => { h with rank := 0, fails := 0, job := k, st := .start }
  | none => { h with st := .idle }

def hFreeAt (e : Int) (r : List Int) (h : Th) : Th := match r with
  | [] => { h with st := .fin e }
  | _ :: _ => { h with st := .free e r }

/-- The code is at its end. -/
def hClose (e : Int) (h : Th) : Th := if e = 1 ∧ h.x.held ≠ [] then { h with st := .cStat } else hFreeAt e h.x.held h

def hCount (K : Cx) (h : Th) : Th := if h.rank = 0 ∧ K.c.r < h.fails + 1 then { h with fails := h.fails + 1, st := .fTake } else { h with fails := h.fails + 1, st := .fStat }
def hFailOwn (K : Cx) (r : List Int) (h : Th) : Th := match r with
  | [] => hCount K h
  | _ :: _ => { h with st := .fOwn r }
/-- It fails. -/
def hFail (K : Cx) (h : Th) : Th := if h.x.inGate then { h with st := .fGate } else hFailOwn K h.x.held h

def hRead (K : Cx) (i : InsD) (h : Th) : Bool × Th :=
  let a := regOf h.x i.b
  if K.c.wd ≤ a then (false, hClose 3 h) else
    match entIdx h.x.writes a with
    | some k => (true, ({ h with x := setReg h.x i.a (h.x.writes.getD k ⟨0, 0⟩).val } : Th).noted 7 a (h.x.writes.getD k ⟨0, 0⟩).val)
    | none => (false, if heldB h.x (a.tmod K.c.s) then { h with st := .rHeld i a } else { h with st := .rVer i a })

def hPut (i : InsD) (a : Int) (h : Th) : Th := ({ h with x := { h.x with writes := putEnt h.x.writes a (regOf h.x i.b) } } : Th).noted 8 a (regOf h.x i.b)

def hWrite (K : Cx) (i : InsD) (h : Th) : Bool × Th :=
  let a := regOf h.x i.a
  if K.c.wd ≤ a then (false, hClose 3 h) else
    if heldB h.x (a.tmod K.c.s) then (true, hPut i a h) else (false, { h with st := .gStat i a })

/-- One instruction: does the code go on without an access? -/
def hStep (K : Cx) (h : Th) : Bool × Th :=
  if h.x.place = h.x.code.length then (false, hClose 1 h) else if (h.x.begun : Int) = K.c.f then (false, hClose 4 h) else
    let i := insAt h.x.code h.x.place
    let x1 := { h.x with begun := h.x.begun + 1 }
    if formedB i h.x.code.length = false then (false, hClose 3 { h with x := x1 }) else
      let x2 := { x1 with place := h.x.place + 1 }
      if i.op = 0 then (false, hClose 1 { h with x := x2 })
      else if i.op = 1 then (false, hClose 2 { h with x := x2 })
      else if i.op = 2 then (true, { h with x := setReg x2 i.a i.b })
      else if i.op = 3 then (true, { h with x := setReg x2 i.a ((regOf x2 i.b + regOf x2 i.c).tmod 65536) })
      else if i.op = 4 then (true, { h with x := setReg x2 i.a ((regOf x2 i.b + 65535 + 1 - regOf x2 i.c).tmod 65536) })
      else if i.op = 5 then (true, { h with x := { x2 with place := i.c.toNat } })
      else if i.op = 6 then (true, { h with x := if regOf x2 i.a < regOf x2 i.b then { x2 with place := i.c.toNat } else x2 })
      else if i.op = 7 then hRead K i { h with x := x2 }
      else hWrite K i { h with x := x2 }

def hAdv (K : Cx) : Nat → Th → Th
  | 0, h => h
  | n + 1, h => if (hStep K h).1 then hAdv K n (hStep K h).2 else (hStep K h).2

/-- The code goes on up to where an access is due. -/
def hGo (K : Cx) (h : Th) : Th := hAdv K (K.c.f.toNat + 1 - h.x.begun) h

def hGot (K : Cx) (i : InsD) (a v : Int) (h : Th) : Th := hGo K (({ h with x := setReg h.x i.a v } : Th).noted 7 a v)

/-- A Write that has just got its stripe. -/
def hWrote (K : Cx) (i : InsD) (a : Int) (h : Th) : Th :=
  if h.rank ≠ 0 ∨ K.c.g = 0 ∨ (h.x.held.length : Int) ≠ K.c.g then hGo K (hPut i a h) else { hPut i a h with st := .tTake }

def hExDone (K : Cx) (k : Ex) (c : Int) (h : Th) : Th :=
  let h1 : Th := { h with list := modLast h.list (fun t => { t with valid := c }), x := { h.x with valid := c } }
  match k with
  | .rd i a v => hGot K i a v h1
  | .wr i a => hWrote K i a h1
def hExStill (K : Cx) (k : Ex) (c : Int) (r : List EntD) (h : Th) : Th := match r with
  | [] => hExDone K k c h
  | _ :: _ => { h with st := .xVer k c r }

def hOpenAt (c : Int) (r : List Int) (h : Th) : Th := match r with
  | [] => { h with st := .fin 1 }
  | _ :: _ => { h with st := .cOpen c r }
def hWordAt (c : Int) (r : List EntD) (h : Th) : Th := match r with
  | [] => hOpenAt c h.x.held h
  | _ :: _ => { h with st := .cWord c r }
def hShutAt (c : Int) (r : List Int) (h : Th) : Th := match r with
  | [] => { h with st := .cStamp c }
  | _ :: _ => { h with st := .cShut c r }
def hStillAt (c : Int) : List EntD → Th → Th
  | [], h => hShutAt c h.x.held h
  | e :: r, h => if heldB h.x e.what then hStillAt c r h else { h with st := .cVer c (e :: r) }

def hRest (K : Cx) (draw : Int) (h : Th) : Th :=
  let n := if h.fails < K.c.cp then h.fails else K.c.cp
  if 0 < draw ∧ (draw.tmod (n + 1)).toNat ≠ 0 then { h with st := .rest (draw.tmod (n + 1)).toNat } else { h with st := .start }

/-- The access that is due. -/
def hOut (K : Cx) (h : Th) : AskD := match h.st with
  | .idle => ⟨0, 0, 0, 0⟩
  | .start => ⟨1, 0, 0, 0⟩
  | .rHeld i a => ⟨1, hWrd K a, 0, 0⟩
  | .rVer i a => ⟨1, hVer (a.tmod K.c.s), 0, 0⟩
  | .rWord i a one => ⟨1, hWrd K a, 0, 0⟩
  | .rAgain i a one v => ⟨1, hVer (a.tmod K.c.s), 0, 0⟩
  | .xClock k => ⟨1, 0, 0, 0⟩
  | .xVer k c [] => ⟨0, 0, 0, 0⟩
  | .xVer k c (e :: r) => ⟨1, hVer e.what, 0, 0⟩
  | .gStat i a => ⟨1, hSta K K.me, 0, 0⟩
  | .gOwn i a => ⟨3, hOwn K (a.tmod K.c.s), 0, K.me + 1⟩
  | .gTheir i a u => ⟨1, hSta K (u - 1), 0, 0⟩
  | .gMark i a u th => ⟨3, hSta K (u - 1), th, th + K.me + 1⟩
  | .gVer i a => ⟨1, hVer (a.tmod K.c.s), 0, 0⟩
  | .tTake => ⟨4, 1, 0, 0⟩
  | .tShow => ⟨3, hSta K K.me, 0, 8 * h.rank⟩
  | .cStat => ⟨1, hSta K K.me, 0, 0⟩
  | .cGate => ⟨3, 2, 0, K.me + 1⟩
  | .cClock => ⟨1, 0, 0, 0⟩
  | .cVer c [] => ⟨0, 0, 0, 0⟩
  | .cVer c (e :: r) => ⟨1, hVer e.what, 0, 0⟩
  | .cShut c [] => ⟨0, 0, 0, 0⟩
  | .cShut c (s :: r) => ⟨2, hVer s, 0, -1⟩
  | .cStamp c => ⟨2, 0, 0, c + 1⟩
  | .cLeave c => ⟨2, 2, 0, 0⟩
  | .cWord c [] => ⟨0, 0, 0, 0⟩
  | .cWord c (e :: r) => ⟨2, hWrd K e.what, 0, e.val⟩
  | .cOpen c [] => ⟨0, 0, 0, 0⟩
  | .cOpen c (s :: r) => ⟨2, hVer s, 0, c + 1⟩
  | .cOwn c [] => ⟨0, 0, 0, 0⟩
  | .cOwn c (s :: r) => ⟨2, hOwn K s, 0, 0⟩
  | .free e [] => ⟨0, 0, 0, 0⟩
  | .free e (s :: r) => ⟨2, hOwn K s, 0, 0⟩
  | .fin e => ⟨2, hSta K K.me, 0, 0⟩
  | .fGate => ⟨2, 2, 0, 0⟩
  | .fOwn [] => ⟨0, 0, 0, 0⟩
  | .fOwn (s :: r) => ⟨2, hOwn K s, 0, 0⟩
  | .fTake => ⟨4, 1, 0, 0⟩
  | .fStat => ⟨2, hSta K K.me, 0, 8 * h.rank⟩
  | .wait win => ⟨1, hSta K win, 0, 0⟩
  | .rest n => ⟨0, 0, 0, 0⟩

/-- What follows the access. -/
def hNext (K : Cx) (h : Th) (v : AnsD) : Th := match h.st with
  | .idle => h
  | .start => hGo K { h with list := h.list ++ [⟨K.me, h.job, v.num, 0, v.seen, 0, 0, []⟩], x := newTS (K.jobs.getD h.job (0, [])).2 v.seen }
  | .rHeld i a => hGot K i a v.seen h
  | .rVer i a => if v.seen = -1 then h else { h with st := .rWord i a v.seen }
  | .rWord i a one => { h with st := .rAgain i a one v.seen }
  | .rAgain i a one w => if v.seen ≠ one then { h with st := .rVer i a } else
      let x1 := if (entIdx h.x.reads (a.tmod K.c.s)).isSome then h.x else { h.x with reads := h.x.reads ++ [⟨a.tmod K.c.s, one⟩] }
      if one ≤ x1.valid then hGot K i a w { h with x := x1 } else { h with x := x1, st := .xClock (.rd i a w) }
  | .xClock k => hExStill K k v.seen h.x.reads h
  | .xVer k c [] => h
  | .xVer k c (e :: r) => if v.seen ≠ e.val then hFail K h else hExStill K k c r h
  | .gStat i a => if 0 < v.seen.tmod 8 then hFail K h else { h with st := .gOwn i a }
  | .gOwn i a => if v.seen = 0 then { h with x := { h.x with held := h.x.held ++ [a.tmod K.c.s] }, st := .gVer i a } else if h.rank = 0 then hFail K h else { h with st := .gTheir i a v.seen }
  | .gTheir i a u => if 0 < v.seen.tdiv 8 ∧ v.seen.tdiv 8 < h.rank then hFail K { h with x := { h.x with way := u - 1 } } else if v.seen.tmod 8 = 0 then { h with st := .gMark i a u v.seen } else { h with st := .gStat i a }
  | .gMark i a u th => { h with st := .gStat i a }
  | .gVer i a => if h.x.valid < v.seen then { h with st := .xClock (.wr i a) } else hWrote K i a h
  | .tTake => { h with rank := v.seen + 1, st := .tShow }
  | .tShow => if v.seen ≠ 0 then hFail K h else hGo K h
  | .cStat => if 0 < v.seen.tmod 8 then hFail K h else { h with st := .cGate }
  | .cGate => { h with x := { h.x with inGate := v.seen == 0 }, st := if v.seen = 0 then .cClock else .cGate }
  | .cClock => if v.seen ≠ h.x.valid then hStillAt v.seen h.x.reads h else hShutAt v.seen h.x.held h
  | .cVer c [] => h
  | .cVer c (e :: r) => if v.seen ≠ e.val then hFail K h else hStillAt c r h
  | .cShut c [] => h
  | .cShut c (s :: r) => hShutAt c r h
  | .cStamp c => { h with list := modLast h.list (fun t => { t with stamp := c + 1 }), st := .cLeave c }
  | .cLeave c => hWordAt c h.x.writes h
  | .cWord c [] => h
  | .cWord c (e :: r) => hWordAt c r h
  | .cOpen c [] => h
  | .cOpen c (s :: r) => { h with st := .cOwn c (s :: r) }
  | .cOwn c [] => h
  | .cOwn c (s :: r) => hOpenAt c r h
  | .free e [] => h
  | .free e (s :: r) => hFreeAt e r h
  | .fin e => hTo K (h.job + 1) { h.ended v.num e with ends := h.ends.set h.job ⟨e, regOf h.x 0, regOf h.x 1, regOf h.x 2, regOf h.x 3⟩ }
  | .fGate => hFailOwn K h.x.held h
  | .fOwn [] => h
  | .fOwn (s :: r) => hFailOwn K r h
  | .fTake => { h with rank := v.seen + 1, st := .fStat }
  | .fStat => if 0 ≤ (if 0 < v.seen.tmod 8 then v.seen.tmod 8 - 1 else h.x.way) then { h.ended v.num 5 with st := .wait (if 0 < v.seen.tmod 8 then v.seen.tmod 8 - 1 else h.x.way) } else hRest K v.draw (h.ended v.num 5)
  | .wait win => if v.seen.tdiv 8 = 0 ∨ (0 < h.rank ∧ h.rank < v.seen.tdiv 8) then { h with st := .start } else h
  | .rest n => if n ≤ 1 then { h with st := .start } else { h with st := .rest (n - 1) }

def hInit (K : Cx) : Th := hTo K 0 ⟨0, 0, [], K.jobs.map fun _ => ⟨0, 0, 0, 0, 0⟩, 0, newTS [] 0, .idle⟩

end Go.Proofs.YtejadojilncbjaaGreat

namespace Go.Proofs.YtejadojilncbjaaGreat
set_option linter.unusedVariables false

/-! The program's thread as plain functions, call by call. -/

structure PT where
  c : Cfg
  num : Int
  mine : List Int
  cur : Nat
  res : List ResD
  rank : Int
  fails : Int
  rest : Int
  step : Int
  order : AskD
  aTh : Int
  aJob : Int
  aStart : Int
  aEnd : Int
  valid : Int
  aStamp : Int
  aFate : Int
  notes : List NoteD
  m : MS
  turn : TurnD
  reads : List EntD
  writes : List EntD
  held : List Int
  version : Int
  value : Int
  rival : Int
  wayTo : Int
  clock : Int
  at_ : Nat

/-- What is told of its attempt. -/
def PT.told (t : PT) : AttD := ⟨t.aTh, t.aJob, t.aStart, t.aEnd, t.valid, t.aStamp, t.aFate, t.notes⟩

def cOwnOf (c : Cfg) (s : Int) : Int := 3 + c.s + s
def cStaOf (c : Cfg) (t : Int) : Int := 3 + 2 * c.s + t
def cWrdOf (c : Cfg) (a : Int) : Int := 3 + 2 * c.s + c.t + a

def yLoad (step cell : Int) (t : PT) : PT := { t with step := step, order := ⟨1, cell, 0, 0⟩ }
def yStore (step cell put : Int) (t : PT) : PT := { t with step := step, order := ⟨2, cell, 0, put⟩ }
def ySwap (step cell frm put : Int) (t : PT) : PT := { t with step := step, order := ⟨3, cell, frm, put⟩ }
def yTake (step cell : Int) (t : PT) : PT := { t with step := step, order := ⟨4, cell, 0, 0⟩ }
def PT.sta (t : PT) : Int := cStaOf t.c t.num
def PT.staOf (t : PT) (name : Int) : Int := cStaOf t.c (name - 1)
def PT.stripe (t : PT) : Int := t.turn.addr.tmod t.c.s
def PT.holds (t : PT) (s : Int) : Bool := t.held.any fun h => h == s

def yBegin (t : PT) : PT := if t.cur < t.mine.length then yLoad 2 0 t else { t with step := 0 }
def yEnd (t : PT) : PT := yStore 27 t.sta 0 t
def yRes (t : PT) : ResD := ⟨t.turn.fate, t.m.regs.getD 0 0, t.m.regs.getD 1 0, t.m.regs.getD 2 0, t.m.regs.getD 3 0⟩
def yConc (fate num : Int) (t : PT) : PT := { t with aFate := fate, aEnd := num }
def yNextJob (num : Int) (t : PT) : PT := yBegin { t with aFate := t.turn.fate, aEnd := num, res := t.res ++ [yRes t], cur := t.cur + 1, rank := 0, fails := 0 }
def yGiveBack (step : Int) (t : PT) : PT := yStore step (cOwnOf t.c (t.held.getD t.at_ 0)) 0 t
def yLetGo (t : PT) : PT := if t.at_ < t.held.length then yGiveBack 26 t else yEnd t
def yFinish (t : PT) : PT := if t.held.length = 0 then yEnd t else yLoad 16 t.sta t

def yShow (t : PT) : PT := yStore 31 t.sta (8 * t.rank) t
def yCount (t : PT) : PT := if t.rank = 0 ∧ t.c.r < t.fails + 1 then yTake 30 1 { t with fails := t.fails + 1 } else yShow { t with fails := t.fails + 1 }
def yUndo (t : PT) : PT := if t.at_ < t.held.length then yGiveBack 29 t else yCount t
def yFail (t : PT) : PT := yUndo { t with at_ := 0 }
def yFailGate (t : PT) : PT := yStore 28 2 0 t
def yFollowFail (put : Int) (t : PT) : PT :=
  if t.step = 28 then yFail t else if t.step = 29 then yUndo { t with at_ := t.at_ + 1 } else if t.step = 30 then yShow { t with rank := put } else t
def yRestBy (t : PT) (draw : Int) : Int := if draw < 0 then 0 else draw.tmod (1 + if t.c.cp < t.fails then t.c.cp else t.fails)
def yWinner (t : PT) (status : Int) : Int := if status.tmod 8 = 0 then t.wayTo else status.tmod 8
def yLose (status draw : Int) (t : PT) : PT := if yWinner t status ≠ 0 then yLoad 32 (t.staOf (yWinner t status)) t else yBegin { t with rest := yRestBy t draw }
def yAwait (status : Int) (t : PT) : PT := if status.tdiv 8 = 0 ∨ (0 < t.rank ∧ t.rank < status.tdiv 8) then yBegin t else t

def yLook (st v : Int) (t : PT) : PT := if (entIdx t.reads st).isSome then t else { t with reads := t.reads ++ [⟨st, v⟩] }
def yLog (a v : Int) (t : PT) : PT := { t with notes := t.notes ++ [⟨t.turn.op, a, v⟩], writes := putEnt t.writes a v }
def yGive (v : Int) (t : PT) : PT := { t with m := { t.m with regs := t.m.regs.set t.m.into.toNat v }, notes := t.notes ++ [⟨t.turn.op, t.turn.addr, v⟩], step := 1 }

def yGet (t : PT) : PT := yLoad 7 t.sta t
def yMeet (rival : Int) (t : PT) : PT := if t.rank = 0 then yFail t else yLoad 9 (t.staOf rival) { t with rival := rival }
def yWeigh (status : Int) (t : PT) : PT :=
  if 0 < status.tdiv 8 ∧ status.tdiv 8 < t.rank then yFail { t with wayTo := t.rival } else if status.tmod 8 ≠ 0 then yGet t else ySwap 10 (t.staOf t.rival) status (status + (t.num + 1)) t
def yWriteGot (t : PT) : PT := if t.rank = 0 ∧ 0 < t.c.g ∧ (t.held.length : Int) = t.c.g then yTake 14 1 (yLog t.turn.addr t.turn.val t) else { yLog t.turn.addr t.turn.val t with step := 1 }
def yFollowTicket (seen put : Int) (t : PT) : PT :=
  if t.step = 14 then ySwap 15 t.sta 0 (8 * put) { t with rank := put } else if t.step = 15 then (if seen ≠ 0 then yFail t else { t with step := 1 }) else t
def yExtend (t : PT) : PT := yLoad 12 0 t
def yEndExt (t : PT) : PT := if t.turn.op = 7 then yGive t.value t else yWriteGot t
def yExtNext (t : PT) : PT := if t.at_ < t.reads.length then yLoad 13 (hVer (t.reads.getD t.at_ ⟨0, 0⟩).what) t else yEndExt { t with valid := t.clock }
def yFollowExt (seen : Int) (t : PT) : PT :=
  if t.step = 12 then yExtNext { t with clock := seen, at_ := 0 } else if t.step = 13 then (if seen ≠ (t.reads.getD t.at_ ⟨0, 0⟩).val then yFail t else yExtNext { t with at_ := t.at_ + 1 }) else yExtNext t
def yFollowGet (seen : Int) (t : PT) : PT :=
  if t.step = 7 then (if seen.tmod 8 ≠ 0 then yFail t else ySwap 8 (cOwnOf t.c t.stripe) 0 (t.num + 1) t)
  else if t.step = 8 then (if seen ≠ 0 then yMeet seen t else yLoad 11 (hVer t.stripe) { t with held := t.held ++ [t.stripe] })
  else if t.step = 9 then yWeigh seen t
  else if t.step = 10 then yGet t
  else if t.step = 11 then (if t.valid < seen then yExtend t else yWriteGot t)
  else t

def yRead (t : PT) : PT := match entIdx t.writes t.turn.addr with
  | some k => yGive (t.writes.getD k ⟨0, 0⟩).val t
  | none => if t.holds t.stripe then yLoad 3 (cWrdOf t.c t.turn.addr) t else yLoad 4 (hVer t.stripe) t
def yTrust (version : Int) (t : PT) : PT :=
  if version ≠ t.version then yLoad 4 (hVer t.stripe) t
  else if t.valid < version then yExtend (yLook t.stripe version t) else yGive t.value (yLook t.stripe version t)
def yFollowRead (seen : Int) (t : PT) : PT :=
  if t.step = 3 then yGive seen t
  else if t.step = 4 then (if seen ≠ -1 then yLoad 5 (cWrdOf t.c t.turn.addr) { t with version := seen } else t)
  else if t.step = 5 then yLoad 6 (hVer t.stripe) { t with value := seen }
  else if t.step = 6 then yTrust seen t
  else t
def yWrite (t : PT) : PT := if t.holds t.stripe then { yLog t.turn.addr t.turn.val t with step := 1 } else yGet t
def yTouch (t : PT) : PT := if t.turn.op = 7 then yRead t else yWrite t
def yTurned (u : TurnD × MS) (t : PT) : PT :=
  if u.1.fate = 0 then yTouch { t with m := u.2, turn := u.1 } else if u.1.fate = 1 then yFinish { t with m := u.2, turn := u.1 } else yLetGo { t with m := u.2, turn := u.1, at_ := 0 }
/-- Rounds enough for the machine's turns. -/
def yRounds : Nat := 50
def yTurn (code : List InsD) (t : PT) : PT := yTurned (pNext t.c.f t.c.wd code yRounds t.m) t
def yTurns (code : List InsD) : Nat → PT → PT
  | 0, t => t
  | n + 1, t => if t.step = 1 then yTurns code n (yTurn code t) else t

def yShut (t : PT) : PT := if t.at_ < t.held.length then yStore 20 (hVer (t.held.getD t.at_ 0)) (-1) t else yStore 21 0 (t.clock + 1) t
def yRelease (t : PT) : PT := if t.at_ < t.held.length then yStore 24 (hVer (t.held.getD t.at_ 0)) (t.clock + 1) t else yEnd t
def yPut (t : PT) : PT := if t.at_ < t.writes.length then yStore 23 (cWrdOf t.c (t.writes.getD t.at_ ⟨0, 0⟩).what) (t.writes.getD t.at_ ⟨0, 0⟩).val t else yRelease { t with at_ := 0 }
/-- From the place at on: n places are left. -/
def yCheckN : Nat → PT → PT
  | 0, t => yShut { t with at_ := 0 }
  | n + 1, t => if t.clock ≠ t.valid then (if t.holds (t.reads.getD t.at_ ⟨0, 0⟩).what then yCheckN n { t with at_ := t.at_ + 1 } else yLoad 19 (hVer (t.reads.getD t.at_ ⟨0, 0⟩).what) t) else yShut { t with at_ := 0 }
def yCheck (t : PT) : PT := yCheckN (t.reads.length - t.at_) t
def yFollowCommit (seen : Int) (t : PT) : PT :=
  if t.step = 16 then (if seen.tmod 8 ≠ 0 then yFail t else ySwap 17 2 0 (t.num + 1) t)
  else if t.step = 17 then (if seen = 0 then yLoad 18 0 t else t)
  else if t.step = 18 then yCheck { t with clock := seen, at_ := 0 }
  else if t.step = 19 then (if seen ≠ (t.reads.getD t.at_ ⟨0, 0⟩).val then yFailGate t else yCheck { t with at_ := t.at_ + 1 })
  else t
def yFollowStore (t : PT) : PT :=
  if t.step = 20 then yShut { t with at_ := t.at_ + 1 }
  else if t.step = 21 then yStore 22 2 0 { t with aStamp := t.clock + 1 }
  else if t.step = 22 then yPut { t with at_ := 0 }
  else if t.step = 23 then yPut { t with at_ := t.at_ + 1 }
  else if t.step = 24 then yStore 25 (cOwnOf t.c (t.held.getD t.at_ 0)) 0 t
  else if t.step = 25 then yRelease { t with at_ := t.at_ + 1 }
  else t

def yNew (t : PT) (seen num : Int) : PT := { t with aTh := t.num, aJob := t.mine.getD t.cur 0, aStart := num, aEnd := 0, aStamp := 0, aFate := 0, notes := [], m := ⟨[0, 0, 0, 0], 0, 0, 0⟩, turn := ⟨0, 0, 0, 0⟩, valid := seen, reads := [], writes := [], held := [], version := 0, value := 0, rival := 0, wayTo := 0, clock := 0, at_ := 0, step := 1 }
def yFollow (seen put num draw : Int) (t : PT) : PT :=
  if t.step = 2 then yNew t seen num
  else if 3 ≤ t.step ∧ t.step ≤ 6 then yFollowRead seen t
  else if 7 ≤ t.step ∧ t.step ≤ 11 then yFollowGet seen t
  else if 12 ≤ t.step ∧ t.step ≤ 13 then yFollowExt seen t
  else if 14 ≤ t.step ∧ t.step ≤ 15 then yFollowTicket seen put t
  else if 16 ≤ t.step ∧ t.step ≤ 19 then yFollowCommit seen t
  else if 20 ≤ t.step ∧ t.step ≤ 25 then yFollowStore t
  else if t.step = 26 then yLetGo { t with at_ := t.at_ + 1 }
  else if t.step = 27 then yNextJob num t
  else if 28 ≤ t.step ∧ t.step ≤ 30 then yFollowFail put t
  else if t.step = 31 then yLose seen draw (yConc 5 num t)
  else if t.step = 32 then yAwait seen t
  else t

end Go.Proofs.YtejadojilncbjaaGreat

namespace Go.Proofs.YtejadojilncbjaaGreat
open Go.RowKit
set_option linter.unusedVariables false
attribute [local go_sem ↓] Go.wp_at_zero Go.wp_at_succ

theorem pComp_begun (m : MS) (i : InsD) : (pComp m i).begun = m.begun := by
  unfold pComp
  split
  · rfl
  · split
    · rfl
    · split
      · rfl
      · split
        · rfl
        · split <;> rfl

end Go.Proofs.YtejadojilncbjaaGreat
