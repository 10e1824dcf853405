import Derived.Test.YtejadojilncbjaaGreatG00
namespace Go.Proofs.YtejadojilncbjaaGreat
set_option linter.unusedVariables false
structure NoteD where
 op : Int
 addr : Int
 val : Int
structure AttD where
 thread : Int
 job : Int
 start : Int
 fin : Int
 valid : Int
 stamp : Int
 fate : Int
 notes : List NoteD
structure ResD where
 fate : Int
 r0 : Int
 r1 : Int
 r2 : Int
 r3 : Int
structure AskD where
 kind : Int
 cell : Int
 frm : Int
 to : Int
structure EntD where
 what : Int
 val : Int
structure Env where
 c : Cfg
 me : Int
 seen : List Int
 draws : List Int
 whens : List Int
 jobs : List (Int × List InsD)
structure LS where
 pos : Nat
 over : Bool
 next : AskD
 rank : Int
 fails : Int
 list : List AttD
 ends : List ResD
structure TS where
 code : List InsD
 regs : List Int
 place : Nat
 begun : Nat
 valid : Int
 reads : List EntD
 writes : List EntD
 held : List Int
 inGate : Bool
 way : Int
def cVersion (E : Env) (s : Int) : Int := 3 + s
def cOwner (E : Env) (s : Int) : Int := 3 + E.c.s + s
def cStatus (E : Env) (t : Int) : Int := 3 + 2 * E.c.s + t
def cWord (E : Env) (a : Int) : Int := 3 + 2 * E.c.s + E.c.t + a
def mAsk (E : Env) (s : LS) (q : AskD) : Int × LS :=
 if s.over then (0, s) else if E.seen.length ≤ s.pos then (0, { s with over := true, next := q }) else (E.seen.getD s.pos 0, { s with pos := s.pos + 1 })
def mLoad (E : Env) (s : LS) (cell : Int) : Int × LS := mAsk E s ⟨1, cell, 0, 0⟩
def mStore (E : Env) (s : LS) (cell to : Int) : Int × LS := mAsk E s ⟨2, cell, 0, to⟩
def modLast (l : List AttD) (f : AttD → AttD) : List AttD := l.modify (l.length - 1) f
def mNoted (s : LS) (op addr val : Int) : LS := { s with list := modLast s.list fun a => { a with notes := a.notes ++ [⟨op, addr, val⟩] } }
def mEnded (E : Env) (s : LS) (fate : Int) : LS := { s with list := modLast s.list fun a => { a with fin := E.whens.getD (s.pos - 1) 0, fate := fate } }
def entIdx (l : List EntD) (what : Int) : Option Nat := l.findIdx? fun e => e.what == what
def idxN (o : Option Nat) : Int := match o with
 | some i => (i : Int)
 | none => -1
def heldB (x : TS) (st : Int) : Bool := x.held.any fun h => h == st
def formedB (i : InsD) (n : Int) : Bool :=
 if i.op = 0 ∨ i.op = 1 then true
 else if i.op = 2 then inB i.a 0 3 && inB i.b 0 65535
 else if i.op = 3 ∨ i.op = 4 then inB i.a 0 3 && inB i.b 0 3 && inB i.c 0 3
 else if i.op = 5 then inB i.c 0 n
 else if i.op = 6 then inB i.a 0 3 && inB i.b 0 3 && inB i.c 0 n
 else if i.op = 7 ∨ i.op = 8 then inB i.a 0 3 && inB i.b 0 3
 else false
def mStill (E : Env) (x : TS) (skip : Bool) : List EntD → LS → Int × LS
 | [], s => (0, s)
 | e :: r, s =>
  if skip && heldB x e.what then mStill E x skip r s else
   let q := mLoad E s (cVersion E e.what)
   if q.2.over then (-1, q.2) else if q.1 ≠ e.val then (5, q.2) else mStill E x skip r q.2
def mExtend (E : Env) (s : LS) (x : TS) : Int × LS × TS :=
 let q := mLoad E s 0
 if q.2.over then (-1, q.2, x) else
  let t := mStill E x false x.reads q.2
  if t.1 = 0 then (0, { t.2 with list := modLast t.2.list fun a => { a with valid := q.1 } }, { x with valid := q.1 }) else (t.1, t.2, x)
def mStands (E : Env) (x : TS) (a st : Int) : Nat → LS → Int × Int × LS × TS
 | 0, s => (0, -1, s, x)
 | n + 1, s =>
  if s.over then (0, -1, s, x) else
   let q1 := mLoad E s (cVersion E st)
   if q1.1 = -1 then mStands E x a st n q1.2 else
    let q2 := mLoad E q1.2 (cWord E a)
    let q3 := mLoad E q2.2 (cVersion E st)
    if q3.2.over ∨ q3.1 ≠ q1.1 then mStands E x a st n q3.2 else
     let x1 := if (entIdx x.reads st).isSome then x else { x with reads := x.reads ++ [⟨st, q1.1⟩] }
     if q1.1 ≤ x1.valid then (q2.1, 0, q3.2, x1) else
      let t := mExtend E q3.2 x1
      (q2.1, t.1, t.2.1, t.2.2)
def mGet (E : Env) (x : TS) (st : Int) : Nat → LS → Int × LS × TS
 | 0, s => (-1, s, x)
 | n + 1, s =>
  if s.over then (-1, s, x) else
   let q1 := mLoad E s (cStatus E E.me)
   if q1.2.over = false ∧ 0 < q1.1.tmod 8 then (5, q1.2, x) else
    let q2 := mAsk E q1.2 ⟨3, cOwner E st, 0, E.me + 1⟩
    if q2.2.over then (-1, q2.2, x) else
     if q2.1 = 0 then
      let x1 := { x with held := x.held ++ [st] }
      let q3 := mLoad E q2.2 (cVersion E st)
      if q3.2.over then (-1, q3.2, x1) else if x1.valid < q3.1 then mExtend E q3.2 x1 else (0, q3.2, x1)
     else if q2.2.rank = 0 then (5, q2.2, x) else
      let q3 := mLoad E q2.2 (cStatus E (q2.1 - 1))
      if q3.2.over = false ∧ 0 < q3.1.tdiv 8 ∧ q3.1.tdiv 8 < q3.2.rank then (5, q3.2, { x with way := q2.1 - 1 }) else
       mGet E x st n (if q3.1.tmod 8 = 0 then (mAsk E q3.2 ⟨3, cStatus E (q2.1 - 1), q3.1, q3.1 + E.me + 1⟩).2 else q3.2)
def loopFuel (E : Env) (s : LS) : Nat := E.seen.length - s.pos + 2
def regOf (x : TS) (i : Int) : Int := x.regs.getD i.toNat 0
def setReg (x : TS) (i v : Int) : TS := { x with regs := x.regs.set i.toNat v }
def mReadV (E : Env) (s : LS) (x : TS) (a : Int) : Int × Int × LS × TS :=
 let st := a.tmod E.c.s
 match entIdx x.writes a with
 | some k => ((x.writes.getD k ⟨0, 0⟩).val, 0, s, x)
 | none => if heldB x st then ((mLoad E s (cWord E a)).1, 0, (mLoad E s (cWord E a)).2, x) else mStands E x a st (loopFuel E s) s
def mRead (E : Env) (s : LS) (x : TS) (i : InsD) : Int × LS × TS :=
 let a := regOf x i.b
 if E.c.wd ≤ a then (3, s, x) else
  let t := mReadV E s x a
  if t.2.2.1.over then (-1, t.2.2.1, t.2.2.2) else if t.2.1 ≠ 0 then (t.2.1, t.2.2.1, t.2.2.2) else
   (0, mNoted t.2.2.1 7 a t.1, setReg t.2.2.2 i.a t.1)
def putEnt (l : List EntD) (a v : Int) : List EntD := match entIdx l a with
 | some k => l.set k ⟨a, v⟩
 | none => l ++ [⟨a, v⟩]
def mWrote (E : Env) (s : LS) (x : TS) (i : InsD) (a : Int) (had : Bool) : Int × LS × TS :=
 let v := regOf x i.b
 let x1 := { x with writes := putEnt x.writes a v }
 let s1 := mNoted s 8 a v
 if had = true ∨ s1.rank ≠ 0 ∨ E.c.g = 0 ∨ (x1.held.length : Int) ≠ E.c.g then (0, s1, x1) else
  let q := mAsk E s1 ⟨4, 1, 0, 0⟩
  if q.2.over then (-1, q.2, x1) else
   let s2 := { q.2 with rank := q.1 + 1 }
   let q2 := mAsk E s2 ⟨3, cStatus E E.me, 0, 8 * (q.1 + 1)⟩
   if q2.2.over then (-1, q2.2, x1) else if q2.1 ≠ 0 then (5, q2.2, x1) else (0, q2.2, x1)
def mWrite (E : Env) (s : LS) (x : TS) (i : InsD) : Int × LS × TS :=
 let a := regOf x i.a
 if E.c.wd ≤ a then (3, s, x) else
  let st := a.tmod E.c.s
  if heldB x st then mWrote E s x i a true else
   let t := mGet E x st (loopFuel E s) s
   if t.1 ≠ 0 then t else mWrote E t.2.1 t.2.2 i a false
def mStep (E : Env) (s : LS) (x : TS) : Int × LS × TS :=
 if x.place = x.code.length then (1, s, x) else if (x.begun : Int) = E.c.f then (4, s, x) else
  let i := insAt x.code x.place
  let x1 := { x with begun := x.begun + 1 }
  if formedB i x.code.length = false then (3, s, x1) else
   let x2 := { x1 with place := x.place + 1 }
   if i.op = 0 then (1, s, x2)
   else if i.op = 1 then (2, s, x2)
   else if i.op = 2 then (0, s, setReg x2 i.a i.b)
   else if i.op = 3 then (0, s, setReg x2 i.a ((regOf x2 i.b + regOf x2 i.c).tmod 65536))
   else if i.op = 4 then (0, s, setReg x2 i.a ((regOf x2 i.b + 65535 + 1 - regOf x2 i.c).tmod 65536))
   else if i.op = 5 then (0, s, { x2 with place := i.c.toNat })
   else if i.op = 6 then (0, s, if regOf x2 i.a < regOf x2 i.b then { x2 with place := i.c.toNat } else x2)
   else if i.op = 7 then mRead E s x2 i
   else mWrite E s x2 i
def mSteps (E : Env) : Nat → LS → TS → Int × LS × TS
 | 0, s, x => (0, s, x)
 | n + 1, s, x => let t := mStep E s x
  if t.1 = 0 then mSteps E n t.2.1 t.2.2 else t
def mFree (E : Env) (x : TS) (s : LS) : LS := x.held.foldl (fun s h => (mStore E s (cOwner E h) 0).2) s
def mGate (E : Env) : Nat → LS → TS → LS × TS
 | 0, s, x => (s, x)
 | n + 1, s, x => if s.over = true ∨ x.inGate = true then (s, x) else
  let q := mAsk E s ⟨3, 2, 0, E.me + 1⟩
  mGate E n q.2 { x with inGate := q.1 == 0 }
def mCommit (E : Env) (s : LS) (x : TS) : Int × LS × TS :=
 let q1 := mLoad E s (cStatus E E.me)
 if q1.2.over = false ∧ 0 < q1.1.tmod 8 then (5, q1.2, x) else
  let g := mGate E (loopFuel E q1.2) q1.2 x
  let q2 := mLoad E g.1 0
  if q2.2.over then (-1, q2.2, g.2) else
   let t := if q2.1 ≠ g.2.valid then mStill E g.2 true g.2.reads q2.2 else (0, q2.2)
   if t.1 ≠ 0 then (t.1, t.2, g.2) else
    let s1 := g.2.held.foldl (fun s h => (mStore E s (cVersion E h) (-1)).2) t.2
    let q3 := mStore E s1 0 (q2.1 + 1)
    if q3.2.over then (-1, q3.2, g.2) else
     let s2 := { q3.2 with list := modLast q3.2.list fun a => { a with stamp := q2.1 + 1 } }
     let s3 := (mStore E s2 2 0).2
     let s4 := g.2.writes.foldl (fun s e => (mStore E s (cWord E e.what) e.val).2) s3
     let s5 := g.2.held.foldl (fun s h => (mStore E (mStore E s (cVersion E h) (q2.1 + 1)).2 (cOwner E h) 0).2) s4
     (1, s5, g.2)
def mWait (E : Env) (win : Int) : Nat → LS → LS
 | 0, s => s
 | n + 1, s => if s.over then s else
  let q := mLoad E s (cStatus E win)
  if q.1.tdiv 8 = 0 ∨ (0 < q.2.rank ∧ q.2.rank < q.1.tdiv 8) then q.2 else mWait E win n q.2
def mNones (E : Env) : Nat → LS → LS
 | 0, s => s
 | n + 1, s => mNones E n (mAsk E s ⟨0, 0, 0, 0⟩).2
def mRest (E : Env) (draw : Int) (s : LS) : LS :=
 let n := if s.fails < E.c.cp then s.fails else E.c.cp
 if 0 < draw then mNones E (draw.tmod (n + 1)).toNat s else s
def mFail (E : Env) (s : LS) (x : TS) : Int × LS :=
 let s1 := if x.inGate then (mStore E s 2 0).2 else s
 let s2 := mFree E x s1
 if s2.over then (-1, s2) else
  let s3 := { s2 with fails := s2.fails + 1 }
  let s4 := if s3.rank = 0 ∧ E.c.r < s3.fails then (let q := mAsk E s3 ⟨4, 1, 0, 0⟩; { q.2 with rank := q.1 + 1 }) else s3
  let q := mStore E s4 (cStatus E E.me) (8 * s4.rank)
  if q.2.over then (-1, q.2) else
   let s5 := mEnded E q.2 5
   let win := if 0 < q.1.tmod 8 then q.1.tmod 8 - 1 else x.way
   let s6 := if 0 ≤ win then mWait E win (loopFuel E s5) s5 else mRest E (E.draws.getD (s5.pos - 1) 0) s5
   if s6.over then (-1, s6) else (5, s6)
def newTS (code : List InsD) (valid : Int) : TS := ⟨code, [0, 0, 0, 0], 0, 0, valid, [], [], [], false, -1⟩
def mClose (E : Env) (e : Int) (s : LS) (x : TS) : Int × LS × TS :=
 if e = 1 ∧ x.held ≠ [] then mCommit E s x else if e ≠ 5 then (e, mFree E x s, x) else (e, s, x)
def mAttempt (E : Env) (s : LS) (job : Nat) : Int × LS :=
 let q := mLoad E s 0
 if q.2.over then (-1, q.2) else
  let s1 := { q.2 with list := q.2.list ++ [⟨E.me, job, E.whens.getD (q.2.pos - 1) 0, 0, q.1, 0, 0, []⟩] }
  let t := mSteps E (E.c.f.toNat + 2) s1 (newTS (E.jobs.getD job (0, [])).2 q.1)
  if t.1 = -1 then (-1, t.2.1) else
   let u := mClose E t.1 t.2.1 t.2.2
   if u.1 = 5 then mFail E u.2.1 u.2.2 else
    let q2 := mStore E u.2.1 (cStatus E E.me) 0
    if q2.2.over then (-1, q2.2) else
     let s2 := mEnded E q2.2 u.1
     (u.1, { s2 with ends := s2.ends.set job ⟨u.1, regOf u.2.2 0, regOf u.2.2 1, regOf u.2.2 2, regOf u.2.2 3⟩ })
def mAttempts (E : Env) (job : Nat) : Nat → LS → LS
 | 0, s => s
 | n + 1, s => let t := mAttempt E s job
  if t.1 = 5 then mAttempts E job n t.2 else t.2
def mJobs (E : Env) : Nat → List (Int × List InsD) → LS → LS
 | _, [], s => s
 | j, b :: r, s => mJobs E (j + 1) r (if b.1 = E.me then mAttempts E j (loopFuel E s) { s with rank := 0, fails := 0 } else s)
def mIdle (E : Env) : Nat → LS → LS
 | 0, s => s
 | n + 1, s => if s.over then s else mIdle E n (mAsk E s ⟨0, 0, 0, 0⟩).2
def mLive (E : Env) (s : LS) : LS := let s1 := mJobs E 0 E.jobs s
 mIdle E (loopFuel E s1) s1
def newLS (E : Env) : LS := ⟨0, false, ⟨0, 0, 0, 0⟩, 0, 0, [], E.jobs.map fun _ => ⟨0, 0, 0, 0, 0⟩⟩
def mTold (E : Env) : LS := mLive E (newLS E)
structure AnsD where
 seen : Int
 draw : Int
 num : Int
structure Cx where
 c : Cfg
 me : Int
 jobs : List (Int × List InsD)
def Env.cx (E : Env) : Cx := ⟨E.c, E.me, E.jobs⟩
def hVer (s : Int) : Int := 3 + s
def hOwn (K : Cx) (s : Int) : Int := 3 + K.c.s + s
def hSta (K : Cx) (t : Int) : Int := 3 + 2 * K.c.s + t
def hWrd (K : Cx) (a : Int) : Int := 3 + 2 * K.c.s + K.c.t + a
inductive Ex where
 | rd (i : InsD) (a v : Int)
 | wr (i : InsD) (a : Int)
inductive St where
 | idle
 | start
 | rHeld (i : InsD) (a : Int)
 | rVer (i : InsD) (a : Int)
 | rWord (i : InsD) (a one : Int)
 | rAgain (i : InsD) (a one v : Int)
 | xClock (k : Ex)
 | xVer (k : Ex) (c : Int) (r : List EntD)
 | gStat (i : InsD) (a : Int)
 | gOwn (i : InsD) (a : Int)
 | gTheir (i : InsD) (a u : Int)
 | gMark (i : InsD) (a u th : Int)
 | gVer (i : InsD) (a : Int)
 | tTake
 | tShow
 | cStat
 | cGate
 | cClock
 | cVer (c : Int) (r : List EntD)
 | cShut (c : Int) (r : List Int)
 | cStamp (c : Int)
 | cLeave (c : Int)
 | cWord (c : Int) (r : List EntD)
 | cOpen (c : Int) (r : List Int)
 | cOwn (c : Int) (r : List Int)
 | free (e : Int) (r : List Int)
 | fin (e : Int)
 | fGate
 | fOwn (r : List Int)
 | fTake
 | fStat
 | wait (win : Int)
 | rest (n : Nat)
structure Th where
 rank : Int
 fails : Int
 list : List AttD
 ends : List ResD
 job : Nat
 x : TS
 st : St
def Th.noted (h : Th) (op a v : Int) : Th := { h with list := modLast h.list fun t => { t with notes := t.notes ++ [⟨op, a, v⟩] } }
def Th.ended (h : Th) (num fate : Int) : Th := { h with list := modLast h.list fun t => { t with fin := num, fate := fate } }
def seek (me : Int) : Nat → List (Int × List InsD) → Option Nat
 | _, [] => none
 | j, b :: r => if b.1 = me then some j else seek me (j + 1) r
def hTo (K : Cx) (j : Nat) (h : Th) : Th := match seek K.me j (K.jobs.drop j) with
 | some k => { h with rank := 0, fails := 0, job := k, st := .start }
 | none => { h with st := .idle }
def hFreeAt (e : Int) (r : List Int) (h : Th) : Th := match r with
 | [] => { h with st := .fin e }
 | _ :: _ => { h with st := .free e r }
def hClose (e : Int) (h : Th) : Th := if e = 1 ∧ h.x.held ≠ [] then { h with st := .cStat } else hFreeAt e h.x.held h
def hCount (K : Cx) (h : Th) : Th := if h.rank = 0 ∧ K.c.r < h.fails + 1 then { h with fails := h.fails + 1, st := .fTake } else { h with fails := h.fails + 1, st := .fStat }
def hFailOwn (K : Cx) (r : List Int) (h : Th) : Th := match r with
 | [] => hCount K h
 | _ :: _ => { h with st := .fOwn r }
def hFail (K : Cx) (h : Th) : Th := if h.x.inGate then { h with st := .fGate } else hFailOwn K h.x.held h
def hRead (K : Cx) (i : InsD) (h : Th) : Bool × Th :=
 let a := regOf h.x i.b
 if K.c.wd ≤ a then (false, hClose 3 h) else
  match entIdx h.x.writes a with
  | some k => (true, ({ h with x := setReg h.x i.a (h.x.writes.getD k ⟨0, 0⟩).val } : Th).noted 7 a (h.x.writes.getD k ⟨0, 0⟩).val)
  | none => (false, if heldB h.x (a.tmod K.c.s) then { h with st := .rHeld i a } else { h with st := .rVer i a })
def hPut (i : InsD) (a : Int) (h : Th) : Th := ({ h with x := { h.x with writes := putEnt h.x.writes a (regOf h.x i.b) } } : Th).noted 8 a (regOf h.x i.b)
def hWrite (K : Cx) (i : InsD) (h : Th) : Bool × Th :=
 let a := regOf h.x i.a
 if K.c.wd ≤ a then (false, hClose 3 h) else
  if heldB h.x (a.tmod K.c.s) then (true, hPut i a h) else (false, { h with st := .gStat i a })
def hStep (K : Cx) (h : Th) : Bool × Th :=
 if h.x.place = h.x.code.length then (false, hClose 1 h) else if (h.x.begun : Int) = K.c.f then (false, hClose 4 h) else
  let i := insAt h.x.code h.x.place
  let x1 := { h.x with begun := h.x.begun + 1 }
  if formedB i h.x.code.length = false then (false, hClose 3 { h with x := x1 }) else
   let x2 := { x1 with place := h.x.place + 1 }
   if i.op = 0 then (false, hClose 1 { h with x := x2 })
   else if i.op = 1 then (false, hClose 2 { h with x := x2 })
   else if i.op = 2 then (true, { h with x := setReg x2 i.a i.b })
   else if i.op = 3 then (true, { h with x := setReg x2 i.a ((regOf x2 i.b + regOf x2 i.c).tmod 65536) })
   else if i.op = 4 then (true, { h with x := setReg x2 i.a ((regOf x2 i.b + 65535 + 1 - regOf x2 i.c).tmod 65536) })
   else if i.op = 5 then (true, { h with x := { x2 with place := i.c.toNat } })
   else if i.op = 6 then (true, { h with x := if regOf x2 i.a < regOf x2 i.b then { x2 with place := i.c.toNat } else x2 })
   else if i.op = 7 then hRead K i { h with x := x2 }
   else hWrite K i { h with x := x2 }
def hAdv (K : Cx) : Nat → Th → Th
 | 0, h => h
 | n + 1, h => if (hStep K h).1 then hAdv K n (hStep K h).2 else (hStep K h).2
def hGo (K : Cx) (h : Th) : Th := hAdv K (K.c.f.toNat + 1 - h.x.begun) h
def hGot (K : Cx) (i : InsD) (a v : Int) (h : Th) : Th := hGo K (({ h with x := setReg h.x i.a v } : Th).noted 7 a v)
def hWrote (K : Cx) (i : InsD) (a : Int) (h : Th) : Th :=
 if h.rank ≠ 0 ∨ K.c.g = 0 ∨ (h.x.held.length : Int) ≠ K.c.g then hGo K (hPut i a h) else { hPut i a h with st := .tTake }
def hExDone (K : Cx) (k : Ex) (c : Int) (h : Th) : Th :=
 let h1 : Th := { h with list := modLast h.list (fun t => { t with valid := c }), x := { h.x with valid := c } }
 match k with
 | .rd i a v => hGot K i a v h1
 | .wr i a => hWrote K i a h1
def hExStill (K : Cx) (k : Ex) (c : Int) (r : List EntD) (h : Th) : Th := match r with
 | [] => hExDone K k c h
 | _ :: _ => { h with st := .xVer k c r }
def hOpenAt (c : Int) (r : List Int) (h : Th) : Th := match r with
 | [] => { h with st := .fin 1 }
 | _ :: _ => { h with st := .cOpen c r }
def hWordAt (c : Int) (r : List EntD) (h : Th) : Th := match r with
 | [] => hOpenAt c h.x.held h
 | _ :: _ => { h with st := .cWord c r }
def hShutAt (c : Int) (r : List Int) (h : Th) : Th := match r with
 | [] => { h with st := .cStamp c }
 | _ :: _ => { h with st := .cShut c r }
def hStillAt (c : Int) : List EntD → Th → Th
 | [], h => hShutAt c h.x.held h
 | e :: r, h => if heldB h.x e.what then hStillAt c r h else { h with st := .cVer c (e :: r) }
def hRest (K : Cx) (draw : Int) (h : Th) : Th :=
 let n := if h.fails < K.c.cp then h.fails else K.c.cp
 if 0 < draw ∧ (draw.tmod (n + 1)).toNat ≠ 0 then { h with st := .rest (draw.tmod (n + 1)).toNat } else { h with st := .start }
def hOut (K : Cx) (h : Th) : AskD := match h.st with
 | .idle => ⟨0, 0, 0, 0⟩
 | .start => ⟨1, 0, 0, 0⟩
 | .rHeld i a => ⟨1, hWrd K a, 0, 0⟩
 | .rVer i a => ⟨1, hVer (a.tmod K.c.s), 0, 0⟩
 | .rWord i a one => ⟨1, hWrd K a, 0, 0⟩
 | .rAgain i a one v => ⟨1, hVer (a.tmod K.c.s), 0, 0⟩
 | .xClock k => ⟨1, 0, 0, 0⟩
 | .xVer k c [] => ⟨0, 0, 0, 0⟩
 | .xVer k c (e :: r) => ⟨1, hVer e.what, 0, 0⟩
 | .gStat i a => ⟨1, hSta K K.me, 0, 0⟩
 | .gOwn i a => ⟨3, hOwn K (a.tmod K.c.s), 0, K.me + 1⟩
 | .gTheir i a u => ⟨1, hSta K (u - 1), 0, 0⟩
 | .gMark i a u th => ⟨3, hSta K (u - 1), th, th + K.me + 1⟩
 | .gVer i a => ⟨1, hVer (a.tmod K.c.s), 0, 0⟩
 | .tTake => ⟨4, 1, 0, 0⟩
 | .tShow => ⟨3, hSta K K.me, 0, 8 * h.rank⟩
 | .cStat => ⟨1, hSta K K.me, 0, 0⟩
 | .cGate => ⟨3, 2, 0, K.me + 1⟩
 | .cClock => ⟨1, 0, 0, 0⟩
 | .cVer c [] => ⟨0, 0, 0, 0⟩
 | .cVer c (e :: r) => ⟨1, hVer e.what, 0, 0⟩
 | .cShut c [] => ⟨0, 0, 0, 0⟩
 | .cShut c (s :: r) => ⟨2, hVer s, 0, -1⟩
 | .cStamp c => ⟨2, 0, 0, c + 1⟩
 | .cLeave c => ⟨2, 2, 0, 0⟩
 | .cWord c [] => ⟨0, 0, 0, 0⟩
 | .cWord c (e :: r) => ⟨2, hWrd K e.what, 0, e.val⟩
 | .cOpen c [] => ⟨0, 0, 0, 0⟩
 | .cOpen c (s :: r) => ⟨2, hVer s, 0, c + 1⟩
 | .cOwn c [] => ⟨0, 0, 0, 0⟩
 | .cOwn c (s :: r) => ⟨2, hOwn K s, 0, 0⟩
 | .free e [] => ⟨0, 0, 0, 0⟩
 | .free e (s :: r) => ⟨2, hOwn K s, 0, 0⟩
 | .fin e => ⟨2, hSta K K.me, 0, 0⟩
 | .fGate => ⟨2, 2, 0, 0⟩
 | .fOwn [] => ⟨0, 0, 0, 0⟩
 | .fOwn (s :: r) => ⟨2, hOwn K s, 0, 0⟩
 | .fTake => ⟨4, 1, 0, 0⟩
 | .fStat => ⟨2, hSta K K.me, 0, 8 * h.rank⟩
 | .wait win => ⟨1, hSta K win, 0, 0⟩
 | .rest n => ⟨0, 0, 0, 0⟩
def hNext (K : Cx) (h : Th) (v : AnsD) : Th := match h.st with
 | .idle => h
 | .start => hGo K { h with list := h.list ++ [⟨K.me, h.job, v.num, 0, v.seen, 0, 0, []⟩], x := newTS (K.jobs.getD h.job (0, [])).2 v.seen }
 | .rHeld i a => hGot K i a v.seen h
 | .rVer i a => if v.seen = -1 then h else { h with st := .rWord i a v.seen }
 | .rWord i a one => { h with st := .rAgain i a one v.seen }
 | .rAgain i a one w => if v.seen ≠ one then { h with st := .rVer i a } else
   let x1 := if (entIdx h.x.reads (a.tmod K.c.s)).isSome then h.x else { h.x with reads := h.x.reads ++ [⟨a.tmod K.c.s, one⟩] }
   if one ≤ x1.valid then hGot K i a w { h with x := x1 } else { h with x := x1, st := .xClock (.rd i a w) }
 | .xClock k => hExStill K k v.seen h.x.reads h
 | .xVer k c [] => h
 | .xVer k c (e :: r) => if v.seen ≠ e.val then hFail K h else hExStill K k c r h
 | .gStat i a => if 0 < v.seen.tmod 8 then hFail K h else { h with st := .gOwn i a }
 | .gOwn i a => if v.seen = 0 then { h with x := { h.x with held := h.x.held ++ [a.tmod K.c.s] }, st := .gVer i a } else if h.rank = 0 then hFail K h else { h with st := .gTheir i a v.seen }
 | .gTheir i a u => if 0 < v.seen.tdiv 8 ∧ v.seen.tdiv 8 < h.rank then hFail K { h with x := { h.x with way := u - 1 } } else if v.seen.tmod 8 = 0 then { h with st := .gMark i a u v.seen } else { h with st := .gStat i a }
 | .gMark i a u th => { h with st := .gStat i a }
 | .gVer i a => if h.x.valid < v.seen then { h with st := .xClock (.wr i a) } else hWrote K i a h
 | .tTake => { h with rank := v.seen + 1, st := .tShow }
 | .tShow => if v.seen ≠ 0 then hFail K h else hGo K h
 | .cStat => if 0 < v.seen.tmod 8 then hFail K h else { h with st := .cGate }
 | .cGate => { h with x := { h.x with inGate := v.seen == 0 }, st := if v.seen = 0 then .cClock else .cGate }
 | .cClock => if v.seen ≠ h.x.valid then hStillAt v.seen h.x.reads h else hShutAt v.seen h.x.held h
 | .cVer c [] => h
 | .cVer c (e :: r) => if v.seen ≠ e.val then hFail K h else hStillAt c r h
 | .cShut c [] => h
 | .cShut c (s :: r) => hShutAt c r h
 | .cStamp c => { h with list := modLast h.list (fun t => { t with stamp := c + 1 }), st := .cLeave c }
 | .cLeave c => hWordAt c h.x.writes h
 | .cWord c [] => h
 | .cWord c (e :: r) => hWordAt c r h
 | .cOpen c [] => h
 | .cOpen c (s :: r) => { h with st := .cOwn c (s :: r) }
 | .cOwn c [] => h
 | .cOwn c (s :: r) => hOpenAt c r h
 | .free e [] => h
 | .free e (s :: r) => hFreeAt e r h
 | .fin e => hTo K (h.job + 1) { h.ended v.num e with ends := h.ends.set h.job ⟨e, regOf h.x 0, regOf h.x 1, regOf h.x 2, regOf h.x 3⟩ }
 | .fGate => hFailOwn K h.x.held h
 | .fOwn [] => h
 | .fOwn (s :: r) => hFailOwn K r h
 | .fTake => { h with rank := v.seen + 1, st := .fStat }
 | .fStat => if 0 ≤ (if 0 < v.seen.tmod 8 then v.seen.tmod 8 - 1 else h.x.way) then { h.ended v.num 5 with st := .wait (if 0 < v.seen.tmod 8 then v.seen.tmod 8 - 1 else h.x.way) } else hRest K v.draw (h.ended v.num 5)
 | .wait win => if v.seen.tdiv 8 = 0 ∨ (0 < h.rank ∧ h.rank < v.seen.tdiv 8) then { h with st := .start } else h
 | .rest n => if n ≤ 1 then { h with st := .start } else { h with st := .rest (n - 1) }
def hRun (K : Cx) (h : Th) (l : List AnsD) : Th := l.foldl (hNext K) h
def hInit (K : Cx) : Th := hTo K 0 ⟨0, 0, [], K.jobs.map fun _ => ⟨0, 0, 0, 0, 0⟩, 0, newTS [] 0, .idle⟩
def ansOf (E : Env) : List AnsD := (List.range E.seen.length).map fun i => ⟨E.seen.getD i 0, E.draws.getD i 0, E.whens.getD i 0⟩
end Go.Proofs.YtejadojilncbjaaGreat
