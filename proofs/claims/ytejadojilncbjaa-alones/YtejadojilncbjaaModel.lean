import Derived.Test.YtejadojilncbjaaOpen
namespace Go.Proofs.Ytejadojilncbjaa
set_option linter.unusedVariables false

/-! The document's life of a thread (package opaqueref), told in plain functions, call by call as the text has it: the word 'over' stays a flag. -/

structure NoteD where
  op : Int
  addr : Int
  val : Int

structure AttD where
  thread : Int
  job : Int
  start : Int
  fin : Int
  valid : Int
  stamp : Int
  fate : Int
  notes : List NoteD

structure ResD where
  fate : Int
  r0 : Int
  r1 : Int
  r2 : Int
  r3 : Int

structure AskD where
  kind : Int
  cell : Int
  frm : Int
  to : Int

structure EntD where
  what : Int
  val : Int

/-- What does not change while a life is told. -/
structure Env where
  c : Cfg
  me : Int
  seen : List Int
  draws : List Int
  whens : List Int
  jobs : List (Int × List InsD)

/-- What changes of a life. -/
structure LS where
  pos : Nat
  over : Bool
  next : AskD
  rank : Int
  fails : Int
  list : List AttD
  ends : List ResD

/-- An attempt while it is made. -/
structure TS where
  code : List InsD
  regs : List Int
  place : Nat
  begun : Nat
  valid : Int
  reads : List EntD
  writes : List EntD
  held : List Int
  inGate : Bool
  way : Int

def cVersion (E : Env) (s : Int) : Int := 3 + s
def cOwner (E : Env) (s : Int) : Int := 3 + E.c.s + s
def cStatus (E : Env) (t : Int) : Int := 3 + 2 * E.c.s + t
def cWord (E : Env) (a : Int) : Int := 3 + 2 * E.c.s + E.c.t + a

def mAsk (E : Env) (s : LS) (q : AskD) : Int × LS :=
  if s.over then (0, s) else if E.seen.length ≤ s.pos then (0, { s with over := true, next := q }) else (E.seen.getD s.pos 0, { s with pos := s.pos + 1 })

def mLoad (E : Env) (s : LS) (cell : Int) : Int × LS := mAsk E s ⟨1, cell, 0, 0⟩
def mStore (E : Env) (s : LS) (cell to : Int) : Int × LS := mAsk E s ⟨2, cell, 0, to⟩

def modLast (l : List AttD) (f : AttD → AttD) : List AttD := l.modify (l.length - 1) f

def mNoted (s : LS) (op addr val : Int) : LS := { s with list := modLast s.list fun a => { a with notes := a.notes ++ [⟨op, addr, val⟩] } }
def mEnded (E : Env) (s : LS) (fate : Int) : LS := { s with list := modLast s.list fun a => { a with fin := E.whens.getD (s.pos - 1) 0, fate := fate } }

def entIdx (l : List EntD) (what : Int) : Option Nat := l.findIdx? fun e => e.what == what
def idxN (o : Option Nat) : Int := match o with
  | some i => (i : Int)
  | none => -1
def heldB (x : TS) (st : Int) : Bool := x.held.any fun h => h == st

def formedB (i : InsD) (n : Int) : Bool :=
  if i.op = 0 ∨ i.op = 1 then true
  else if i.op = 2 then inB i.a 0 3 && inB i.b 0 65535
  else if i.op = 3 ∨ i.op = 4 then inB i.a 0 3 && inB i.b 0 3 && inB i.c 0 3
  else if i.op = 5 then inB i.c 0 n
  else if i.op = 6 then inB i.a 0 3 && inB i.b 0 3 && inB i.c 0 n
  else if i.op = 7 ∨ i.op = 8 then inB i.a 0 3 && inB i.b 0 3
  else false

def mStill (E : Env) (x : TS) (skip : Bool) : List EntD → LS → Int × LS
  | [], s => (0, s)
  | e :: r, s =>
    if skip && heldB x e.what then mStill E x skip r s else
      let q := mLoad E s (cVersion E e.what)
      if q.2.over then (-1, q.2) else if q.1 ≠ e.val then (5, q.2) else mStill E x skip r q.2

def mExtend (E : Env) (s : LS) (x : TS) : Int × LS × TS :=
  let q := mLoad E s 0
  if q.2.over then (-1, q.2, x) else
    let t := mStill E x false x.reads q.2
    if t.1 = 0 then (0, { t.2 with list := modLast t.2.list fun a => { a with valid := q.1 } }, { x with valid := q.1 }) else (t.1, t.2, x)

/-- (value, fate, life, attempt) -/
def mStands (E : Env) (x : TS) (a st : Int) : Nat → LS → Int × Int × LS × TS
  | 0, s => (0, -1, s, x)
  | n + 1, s =>
    if s.over then (0, -1, s, x) else
      let q1 := mLoad E s (cVersion E st)
      if q1.1 = -1 then mStands E x a st n q1.2 else
        let q2 := mLoad E q1.2 (cWord E a)
        let q3 := mLoad E q2.2 (cVersion E st)
        if q3.2.over ∨ q3.1 ≠ q1.1 then mStands E x a st n q3.2 else
          let x1 := if (entIdx x.reads st).isSome then x else { x with reads := x.reads ++ [⟨st, q1.1⟩] }
          if q1.1 ≤ x1.valid then (q2.1, 0, q3.2, x1) else
            let t := mExtend E q3.2 x1
            (q2.1, t.1, t.2.1, t.2.2)

def mGet (E : Env) (x : TS) (st : Int) : Nat → LS → Int × LS × TS
  | 0, s => (-1, s, x)
  | n + 1, s =>
    if s.over then (-1, s, x) else
      let q1 := mLoad E s (cStatus E E.me)
      if q1.2.over = false ∧ 0 < q1.1.tmod 8 then (5, q1.2, x) else
        let q2 := mAsk E q1.2 ⟨3, cOwner E st, 0, E.me + 1⟩
        if q2.2.over then (-1, q2.2, x) else
          if q2.1 = 0 then
            let x1 := { x with held := x.held ++ [st] }
            let q3 := mLoad E q2.2 (cVersion E st)
            if q3.2.over then (-1, q3.2, x1) else if x1.valid < q3.1 then mExtend E q3.2 x1 else (0, q3.2, x1)
          else if q2.2.rank = 0 then (5, q2.2, x) else
            let q3 := mLoad E q2.2 (cStatus E (q2.1 - 1))
            if q3.2.over = false ∧ 0 < q3.1.tdiv 8 ∧ q3.1.tdiv 8 < q3.2.rank then (5, q3.2, { x with way := q2.1 - 1 }) else
              mGet E x st n (if q3.1.tmod 8 = 0 then (mAsk E q3.2 ⟨3, cStatus E (q2.1 - 1), q3.1, q3.1 + E.me + 1⟩).2 else q3.2)

def loopFuel (E : Env) (s : LS) : Nat := E.seen.length - s.pos + 2

def regOf (x : TS) (i : Int) : Int := x.regs.getD i.toNat 0
def setReg (x : TS) (i v : Int) : TS := { x with regs := x.regs.set i.toNat v }

/-- the value, what became of it -/
def mReadV (E : Env) (s : LS) (x : TS) (a : Int) : Int × Int × LS × TS :=
  let st := a.tmod E.c.s
  match entIdx x.writes a with
  | some k => ((x.writes.getD k ⟨0, 0⟩).val, 0, s, x)
  | none => if heldB x st then ((mLoad E s (cWord E a)).1, 0, (mLoad E s (cWord E a)).2, x) else mStands E x a st (loopFuel E s) s

def mRead (E : Env) (s : LS) (x : TS) (i : InsD) : Int × LS × TS :=
  let a := regOf x i.b
  if E.c.wd ≤ a then (3, s, x) else
    let t := mReadV E s x a
    if t.2.2.1.over then (-1, t.2.2.1, t.2.2.2) else if t.2.1 ≠ 0 then (t.2.1, t.2.2.1, t.2.2.2) else
      (0, mNoted t.2.2.1 7 a t.1, setReg t.2.2.2 i.a t.1)

def putEnt (l : List EntD) (a v : Int) : List EntD := match entIdx l a with
  | some k => l.set k ⟨a, v⟩
  | none => l ++ [⟨a, v⟩]

/-- What follows once the stripe is held. -/
def mWrote (E : Env) (s : LS) (x : TS) (i : InsD) (a : Int) (had : Bool) : Int × LS × TS :=
  let v := regOf x i.b
  let x1 := { x with writes := putEnt x.writes a v }
  let s1 := mNoted s 8 a v
  if had = true ∨ s1.rank ≠ 0 ∨ E.c.g = 0 ∨ (x1.held.length : Int) ≠ E.c.g then (0, s1, x1) else
    let q := mAsk E s1 ⟨4, 1, 0, 0⟩
    if q.2.over then (-1, q.2, x1) else
      let s2 := { q.2 with rank := q.1 + 1 }
      let q2 := mAsk E s2 ⟨3, cStatus E E.me, 0, 8 * (q.1 + 1)⟩
      if q2.2.over then (-1, q2.2, x1) else if q2.1 ≠ 0 then (5, q2.2, x1) else (0, q2.2, x1)

def mWrite (E : Env) (s : LS) (x : TS) (i : InsD) : Int × LS × TS :=
  let a := regOf x i.a
  if E.c.wd ≤ a then (3, s, x) else
    let st := a.tmod E.c.s
    if heldB x st then mWrote E s x i a true else
      let t := mGet E x st (loopFuel E s) s
      if t.1 ≠ 0 then t else mWrote E t.2.1 t.2.2 i a false

def mStep (E : Env) (s : LS) (x : TS) : Int × LS × TS :=
  if x.place = x.code.length then (1, s, x) else if (x.begun : Int) = E.c.f then (4, s, x) else
    let i := insAt x.code x.place
    let x1 := { x with begun := x.begun + 1 }
    if formedB i x.code.length = false then (3, s, x1) else
      let x2 := { x1 with place := x.place + 1 }
      if i.op = 0 then (1, s, x2)
      else if i.op = 1 then (2, s, x2)
      else if i.op = 2 then (0, s, setReg x2 i.a i.b)
      else if i.op = 3 then (0, s, setReg x2 i.a ((regOf x2 i.b + regOf x2 i.c).tmod 65536))
      else if i.op = 4 then (0, s, setReg x2 i.a ((regOf x2 i.b + 65535 + 1 - regOf x2 i.c).tmod 65536))
      else if i.op = 5 then (0, s, { x2 with place := i.c.toNat })
      else if i.op = 6 then (0, s, if regOf x2 i.a < regOf x2 i.b then { x2 with place := i.c.toNat } else x2)
      else if i.op = 7 then mRead E s x2 i
      else mWrite E s x2 i

def mSteps (E : Env) : Nat → LS → TS → Int × LS × TS
  | 0, s, x => (0, s, x)
  | n + 1, s, x => let t := mStep E s x
    if t.1 = 0 then mSteps E n t.2.1 t.2.2 else t

def mFree (E : Env) (x : TS) (s : LS) : LS := x.held.foldl (fun s h => (mStore E s (cOwner E h) 0).2) s

def mGate (E : Env) : Nat → LS → TS → LS × TS
  | 0, s, x => (s, x)
  | n + 1, s, x => if s.over = true ∨ x.inGate = true then (s, x) else
    let q := mAsk E s ⟨3, 2, 0, E.me + 1⟩
    mGate E n q.2 { x with inGate := q.1 == 0 }

def mCommit (E : Env) (s : LS) (x : TS) : Int × LS × TS :=
  let q1 := mLoad E s (cStatus E E.me)
  if q1.2.over = false ∧ 0 < q1.1.tmod 8 then (5, q1.2, x) else
    let g := mGate E (loopFuel E q1.2) q1.2 x
    let q2 := mLoad E g.1 0
    if q2.2.over then (-1, q2.2, g.2) else
      let t := if q2.1 ≠ g.2.valid then mStill E g.2 true g.2.reads q2.2 else (0, q2.2)
      if t.1 ≠ 0 then (t.1, t.2, g.2) else
        let s1 := g.2.held.foldl (fun s h => (mStore E s (cVersion E h) (-1)).2) t.2
        let q3 := mStore E s1 0 (q2.1 + 1)
        if q3.2.over then (-1, q3.2, g.2) else
          let s2 := { q3.2 with list := modLast q3.2.list fun a => { a with stamp := q2.1 + 1 } }
          let s3 := (mStore E s2 2 0).2
          let s4 := g.2.writes.foldl (fun s e => (mStore E s (cWord E e.what) e.val).2) s3
          let s5 := g.2.held.foldl (fun s h => (mStore E (mStore E s (cVersion E h) (q2.1 + 1)).2 (cOwner E h) 0).2) s4
          (1, s5, g.2)

def mWait (E : Env) (win : Int) : Nat → LS → LS
  | 0, s => s
  | n + 1, s => if s.over then s else
    let q := mLoad E s (cStatus E win)
    if q.1.tdiv 8 = 0 ∨ (0 < q.2.rank ∧ q.2.rank < q.1.tdiv 8) then q.2 else mWait E win n q.2

def mNones (E : Env) : Nat → LS → LS
  | 0, s => s
  | n + 1, s => mNones E n (mAsk E s ⟨0, 0, 0, 0⟩).2

def mRest (E : Env) (draw : Int) (s : LS) : LS :=
  let n := if s.fails < E.c.cp then s.fails else E.c.cp
  if 0 < draw then mNones E (draw.tmod (n + 1)).toNat s else s

def mFail (E : Env) (s : LS) (x : TS) : Int × LS :=
  let s1 := if x.inGate then (mStore E s 2 0).2 else s
  let s2 := mFree E x s1
  if s2.over then (-1, s2) else
    let s3 := { s2 with fails := s2.fails + 1 }
    let s4 := if s3.rank = 0 ∧ E.c.r < s3.fails then (let q := mAsk E s3 ⟨4, 1, 0, 0⟩; { q.2 with rank := q.1 + 1 }) else s3
    let q := mStore E s4 (cStatus E E.me) (8 * s4.rank)
    if q.2.over then (-1, q.2) else
      let s5 := mEnded E q.2 5
      let win := if 0 < q.1.tmod 8 then q.1.tmod 8 - 1 else x.way
      let s6 := if 0 ≤ win then mWait E win (loopFuel E s5) s5 else mRest E (E.draws.getD (s5.pos - 1) 0) s5
      if s6.over then (-1, s6) else (5, s6)

def newTS (code : List InsD) (valid : Int) : TS := ⟨code, [0, 0, 0, 0], 0, 0, valid, [], [], [], false, -1⟩

/-- Behind the last step of an attempt: the commit, or the owners are given back. -/
def mClose (E : Env) (e : Int) (s : LS) (x : TS) : Int × LS × TS :=
  if e = 1 ∧ x.held ≠ [] then mCommit E s x else if e ≠ 5 then (e, mFree E x s, x) else (e, s, x)

def mAttempt (E : Env) (s : LS) (job : Nat) : Int × LS :=
  let q := mLoad E s 0
  if q.2.over then (-1, q.2) else
    let s1 := { q.2 with list := q.2.list ++ [⟨E.me, job, E.whens.getD (q.2.pos - 1) 0, 0, q.1, 0, 0, []⟩] }
    let t := mSteps E (E.c.f.toNat + 2) s1 (newTS (E.jobs.getD job (0, [])).2 q.1)
    if t.1 = -1 then (-1, t.2.1) else
      let u := mClose E t.1 t.2.1 t.2.2
      if u.1 = 5 then mFail E u.2.1 u.2.2 else
        let q2 := mStore E u.2.1 (cStatus E E.me) 0
        if q2.2.over then (-1, q2.2) else
          let s2 := mEnded E q2.2 u.1
          (u.1, { s2 with ends := s2.ends.set job ⟨u.1, regOf u.2.2 0, regOf u.2.2 1, regOf u.2.2 2, regOf u.2.2 3⟩ })

def mAttempts (E : Env) (job : Nat) : Nat → LS → LS
  | 0, s => s
  | n + 1, s => let t := mAttempt E s job
    if t.1 = 5 then mAttempts E job n t.2 else t.2

def mJobs (E : Env) : Nat → List (Int × List InsD) → LS → LS
  | _, [], s => s
  | j, b :: r, s => mJobs E (j + 1) r (if b.1 = E.me then mAttempts E j (loopFuel E s) { s with rank := 0, fails := 0 } else s)

def mIdle (E : Env) : Nat → LS → LS
  | 0, s => s
  | n + 1, s => if s.over then s else mIdle E n (mAsk E s ⟨0, 0, 0, 0⟩).2

def mLive (E : Env) (s : LS) : LS := let s1 := mJobs E 0 E.jobs s
  mIdle E (loopFuel E s1) s1

def newLS (E : Env) : LS := ⟨0, false, ⟨0, 0, 0, 0⟩, 0, 0, [], E.jobs.map fun _ => ⟨0, 0, 0, 0, 0⟩⟩

def mTold (E : Env) : LS := mLive E (newLS E)

end Go.Proofs.Ytejadojilncbjaa
