import Derived.Test.YtejadojilncbjabGreatD00
import Derived.Deep.RegionHeld3
import Derived.Deep.AppendLies
import Derived.Deep.DrawnRows
import Derived.WalkSmall
import Derived.BigRegion
import Derived.Deep.RegionLaw
namespace Go.Proofs.YtejadojilncbjabGreat
set_option linter.unusedVariables false
structure NoteD where
 op : Int
 addr : Int
 val : Int
structure AttD where
 thread : Int
 job : Int
 start : Int
 fin : Int
 valid : Int
 stamp : Int
 fate : Int
 notes : List NoteD
structure ResD where
 fate : Int
 r0 : Int
 r1 : Int
 r2 : Int
 r3 : Int
structure AskD where
 kind : Int
 cell : Int
 frm : Int
 to : Int
structure EntD where
 what : Int
 val : Int
structure Env where
 c : Cfg
 me : Int
 seen : List Int
 draws : List Int
 whens : List Int
 jobs : List (Int × List InsD)
structure LS where
 pos : Nat
 over : Bool
 next : AskD
 rank : Int
 fails : Int
 list : List AttD
 ends : List ResD
structure TS where
 code : List InsD
 regs : List Int
 place : Nat
 begun : Nat
 valid : Int
 reads : List EntD
 writes : List EntD
 held : List Int
 inGate : Bool
 way : Int
def cWord (E : Env) (a : Int) : Int := 3 + 2 * E.c.s + E.c.t + a
def mAsk (E : Env) (s : LS) (q : AskD) : Int × LS :=
 if s.over then (0, s) else if E.seen.length ≤ s.pos then (0, { s with over := true, next := q }) else (E.seen.getD s.pos 0, { s with pos := s.pos + 1 })
def modLast (l : List AttD) (f : AttD → AttD) : List AttD := l.modify (l.length - 1) f
def mNoted (s : LS) (op addr val : Int) : LS := { s with list := modLast s.list fun a => { a with notes := a.notes ++ [⟨op, addr, val⟩] } }
def mEnded (E : Env) (s : LS) (fate : Int) : LS := { s with list := modLast s.list fun a => { a with fin := E.whens.getD (s.pos - 1) 0, fate := fate } }
def entIdx (l : List EntD) (what : Int) : Option Nat := l.findIdx? fun e => e.what == what
def heldB (x : TS) (st : Int) : Bool := x.held.any fun h => h == st
def formedB (i : InsD) (n : Int) : Bool :=
 if i.op = 0 ∨ i.op = 1 then true
 else if i.op = 2 then inB i.a 0 3 && inB i.b 0 65535
 else if i.op = 3 ∨ i.op = 4 then inB i.a 0 3 && inB i.b 0 3 && inB i.c 0 3
 else if i.op = 5 then inB i.c 0 n
 else if i.op = 6 then inB i.a 0 3 && inB i.b 0 3 && inB i.c 0 n
 else if i.op = 7 ∨ i.op = 8 then inB i.a 0 3 && inB i.b 0 3
 else false
def regOf (x : TS) (i : Int) : Int := x.regs.getD i.toNat 0
def setReg (x : TS) (i v : Int) : TS := { x with regs := x.regs.set i.toNat v }
def putEnt (l : List EntD) (a v : Int) : List EntD := match entIdx l a with
 | some k => l.set k ⟨a, v⟩
 | none => l ++ [⟨a, v⟩]
def newTS (code : List InsD) (valid : Int) : TS := ⟨code, [0, 0, 0, 0], 0, 0, valid, [], [], [], false, -1⟩
def newLS (E : Env) : LS := ⟨0, false, ⟨0, 0, 0, 0⟩, 0, 0, [], E.jobs.map fun _ => ⟨0, 0, 0, 0, 0⟩⟩
structure AnsD where
 seen : Int
 draw : Int
 num : Int
structure Cx where
 c : Cfg
 me : Int
 jobs : List (Int × List InsD)
def Env.cx (E : Env) : Cx := ⟨E.c, E.me, E.jobs⟩
def hVer (s : Int) : Int := 3 + s
def hOwn (K : Cx) (s : Int) : Int := 3 + K.c.s + s
def hSta (K : Cx) (t : Int) : Int := 3 + 2 * K.c.s + t
def hWrd (K : Cx) (a : Int) : Int := 3 + 2 * K.c.s + K.c.t + a
inductive Ex where
 | rd (i : InsD) (a v : Int)
 | wr (i : InsD) (a : Int)
inductive St where
 | idle
 | start
 | rHeld (i : InsD) (a : Int)
 | rVer (i : InsD) (a : Int)
 | rWord (i : InsD) (a one : Int)
 | rAgain (i : InsD) (a one v : Int)
 | xClock (k : Ex)
 | xVer (k : Ex) (c : Int) (r : List EntD)
 | gStat (i : InsD) (a : Int)
 | gOwn (i : InsD) (a : Int)
 | gTheir (i : InsD) (a u : Int)
 | gMark (i : InsD) (a u th : Int)
 | gVer (i : InsD) (a : Int)
 | tTake
 | tShow
 | cStat
 | cGate
 | cClock
 | cVer (c : Int) (r : List EntD)
 | cShut (c : Int) (r : List Int)
 | cStamp (c : Int)
 | cLeave (c : Int)
 | cWord (c : Int) (r : List EntD)
 | cOpen (c : Int) (r : List Int)
 | cOwn (c : Int) (r : List Int)
 | free (e : Int) (r : List Int)
 | fin (e : Int)
 | fGate
 | fOwn (r : List Int)
 | fTake
 | fStat
 | wait (win : Int)
 | rest (n : Nat)
structure Th where
 rank : Int
 fails : Int
 list : List AttD
 ends : List ResD
 job : Nat
 x : TS
 st : St
def Th.noted (h : Th) (op a v : Int) : Th := { h with list := modLast h.list fun t => { t with notes := t.notes ++ [⟨op, a, v⟩] } }
def Th.ended (h : Th) (num fate : Int) : Th := { h with list := modLast h.list fun t => { t with fin := num, fate := fate } }
def seek (me : Int) : Nat → List (Int × List InsD) → Option Nat
 | _, [] => none
 | j, b :: r => if b.1 = me then some j else seek me (j + 1) r
def hTo (K : Cx) (j : Nat) (h : Th) : Th := match seek K.me j (K.jobs.drop j) with
 | some k => { h with rank := 0, fails := 0, job := k, st := .start }
 | none => { h with st := .idle }
def hFreeAt (e : Int) (r : List Int) (h : Th) : Th := match r with
 | [] => { h with st := .fin e }
 | _ :: _ => { h with st := .free e r }
def hClose (e : Int) (h : Th) : Th := if e = 1 ∧ h.x.held ≠ [] then { h with st := .cStat } else hFreeAt e h.x.held h
def hCount (K : Cx) (h : Th) : Th := if h.rank = 0 ∧ K.c.r < h.fails + 1 then { h with fails := h.fails + 1, st := .fTake } else { h with fails := h.fails + 1, st := .fStat }
def hFailOwn (K : Cx) (r : List Int) (h : Th) : Th := match r with
 | [] => hCount K h
 | _ :: _ => { h with st := .fOwn r }
def hFail (K : Cx) (h : Th) : Th := if h.x.inGate then { h with st := .fGate } else hFailOwn K h.x.held h
def hRead (K : Cx) (i : InsD) (h : Th) : Bool × Th :=
 let a := regOf h.x i.b
 if K.c.wd ≤ a then (false, hClose 3 h) else
  match entIdx h.x.writes a with
  | some k => (true, ({ h with x := setReg h.x i.a (h.x.writes.getD k ⟨0, 0⟩).val } : Th).noted 7 a (h.x.writes.getD k ⟨0, 0⟩).val)
  | none => (false, if heldB h.x (a.tmod K.c.s) then { h with st := .rHeld i a } else { h with st := .rVer i a })
def hPut (i : InsD) (a : Int) (h : Th) : Th := ({ h with x := { h.x with writes := putEnt h.x.writes a (regOf h.x i.b) } } : Th).noted 8 a (regOf h.x i.b)
def hWrite (K : Cx) (i : InsD) (h : Th) : Bool × Th :=
 let a := regOf h.x i.a
 if K.c.wd ≤ a then (false, hClose 3 h) else
  if heldB h.x (a.tmod K.c.s) then (true, hPut i a h) else (false, { h with st := .gStat i a })
def hStep (K : Cx) (h : Th) : Bool × Th :=
 if h.x.place = h.x.code.length then (false, hClose 1 h) else if (h.x.begun : Int) = K.c.f then (false, hClose 4 h) else
  let i := insAt h.x.code h.x.place
  let x1 := { h.x with begun := h.x.begun + 1 }
  if formedB i h.x.code.length = false then (false, hClose 3 { h with x := x1 }) else
   let x2 := { x1 with place := h.x.place + 1 }
   if i.op = 0 then (false, hClose 1 { h with x := x2 })
   else if i.op = 1 then (false, hClose 2 { h with x := x2 })
   else if i.op = 2 then (true, { h with x := setReg x2 i.a i.b })
   else if i.op = 3 then (true, { h with x := setReg x2 i.a ((regOf x2 i.b + regOf x2 i.c).tmod 65536) })
   else if i.op = 4 then (true, { h with x := setReg x2 i.a ((regOf x2 i.b + 65535 + 1 - regOf x2 i.c).tmod 65536) })
   else if i.op = 5 then (true, { h with x := { x2 with place := i.c.toNat } })
   else if i.op = 6 then (true, { h with x := if regOf x2 i.a < regOf x2 i.b then { x2 with place := i.c.toNat } else x2 })
   else if i.op = 7 then hRead K i { h with x := x2 }
   else hWrite K i { h with x := x2 }
def hAdv (K : Cx) : Nat → Th → Th
 | 0, h => h
 | n + 1, h => if (hStep K h).1 then hAdv K n (hStep K h).2 else (hStep K h).2
def hGo (K : Cx) (h : Th) : Th := hAdv K (K.c.f.toNat + 1 - h.x.begun) h
def hGot (K : Cx) (i : InsD) (a v : Int) (h : Th) : Th := hGo K (({ h with x := setReg h.x i.a v } : Th).noted 7 a v)
def hWrote (K : Cx) (i : InsD) (a : Int) (h : Th) : Th :=
 if h.rank ≠ 0 ∨ K.c.g = 0 ∨ (h.x.held.length : Int) ≠ K.c.g then hGo K (hPut i a h) else { hPut i a h with st := .tTake }
def hExDone (K : Cx) (k : Ex) (c : Int) (h : Th) : Th :=
 let h1 : Th := { h with list := modLast h.list (fun t => { t with valid := c }), x := { h.x with valid := c } }
 match k with
 | .rd i a v => hGot K i a v h1
 | .wr i a => hWrote K i a h1
def hExStill (K : Cx) (k : Ex) (c : Int) (r : List EntD) (h : Th) : Th := match r with
 | [] => hExDone K k c h
 | _ :: _ => { h with st := .xVer k c r }
def hOpenAt (c : Int) (r : List Int) (h : Th) : Th := match r with
 | [] => { h with st := .fin 1 }
 | _ :: _ => { h with st := .cOpen c r }
def hWordAt (c : Int) (r : List EntD) (h : Th) : Th := match r with
 | [] => hOpenAt c h.x.held h
 | _ :: _ => { h with st := .cWord c r }
def hShutAt (c : Int) (r : List Int) (h : Th) : Th := match r with
 | [] => { h with st := .cStamp c }
 | _ :: _ => { h with st := .cShut c r }
def hStillAt (c : Int) : List EntD → Th → Th
 | [], h => hShutAt c h.x.held h
 | e :: r, h => if heldB h.x e.what then hStillAt c r h else { h with st := .cVer c (e :: r) }
def hRest (K : Cx) (draw : Int) (h : Th) : Th :=
 let n := if h.fails < K.c.cp then h.fails else K.c.cp
 if 0 < draw ∧ (draw.tmod (n + 1)).toNat ≠ 0 then { h with st := .rest (draw.tmod (n + 1)).toNat } else { h with st := .start }
def hOut (K : Cx) (h : Th) : AskD := match h.st with
 | .idle => ⟨0, 0, 0, 0⟩
 | .start => ⟨1, 0, 0, 0⟩
 | .rHeld i a => ⟨1, hWrd K a, 0, 0⟩
 | .rVer i a => ⟨1, hVer (a.tmod K.c.s), 0, 0⟩
 | .rWord i a one => ⟨1, hWrd K a, 0, 0⟩
 | .rAgain i a one v => ⟨1, hVer (a.tmod K.c.s), 0, 0⟩
 | .xClock k => ⟨1, 0, 0, 0⟩
 | .xVer k c [] => ⟨0, 0, 0, 0⟩
 | .xVer k c (e :: r) => ⟨1, hVer e.what, 0, 0⟩
 | .gStat i a => ⟨1, hSta K K.me, 0, 0⟩
 | .gOwn i a => ⟨3, hOwn K (a.tmod K.c.s), 0, K.me + 1⟩
 | .gTheir i a u => ⟨1, hSta K (u - 1), 0, 0⟩
 | .gMark i a u th => ⟨3, hSta K (u - 1), th, th + K.me + 1⟩
 | .gVer i a => ⟨1, hVer (a.tmod K.c.s), 0, 0⟩
 | .tTake => ⟨4, 1, 0, 0⟩
 | .tShow => ⟨3, hSta K K.me, 0, 8 * h.rank⟩
 | .cStat => ⟨1, hSta K K.me, 0, 0⟩
 | .cGate => ⟨3, 2, 0, K.me + 1⟩
 | .cClock => ⟨1, 0, 0, 0⟩
 | .cVer c [] => ⟨0, 0, 0, 0⟩
 | .cVer c (e :: r) => ⟨1, hVer e.what, 0, 0⟩
 | .cShut c [] => ⟨0, 0, 0, 0⟩
 | .cShut c (s :: r) => ⟨2, hVer s, 0, -1⟩
 | .cStamp c => ⟨2, 0, 0, c + 1⟩
 | .cLeave c => ⟨2, 2, 0, 0⟩
 | .cWord c [] => ⟨0, 0, 0, 0⟩
 | .cWord c (e :: r) => ⟨2, hWrd K e.what, 0, e.val⟩
 | .cOpen c [] => ⟨0, 0, 0, 0⟩
 | .cOpen c (s :: r) => ⟨2, hVer s, 0, c + 1⟩
 | .cOwn c [] => ⟨0, 0, 0, 0⟩
 | .cOwn c (s :: r) => ⟨2, hOwn K s, 0, 0⟩
 | .free e [] => ⟨0, 0, 0, 0⟩
 | .free e (s :: r) => ⟨2, hOwn K s, 0, 0⟩
 | .fin e => ⟨2, hSta K K.me, 0, 0⟩
 | .fGate => ⟨2, 2, 0, 0⟩
 | .fOwn [] => ⟨0, 0, 0, 0⟩
 | .fOwn (s :: r) => ⟨2, hOwn K s, 0, 0⟩
 | .fTake => ⟨4, 1, 0, 0⟩
 | .fStat => ⟨2, hSta K K.me, 0, 8 * h.rank⟩
 | .wait win => ⟨1, hSta K win, 0, 0⟩
 | .rest n => ⟨0, 0, 0, 0⟩
def hNext (K : Cx) (h : Th) (v : AnsD) : Th := match h.st with
 | .idle => h
 | .start => hGo K { h with list := h.list ++ [⟨K.me, h.job, v.num, 0, v.seen, 0, 0, []⟩], x := newTS (K.jobs.getD h.job (0, [])).2 v.seen }
 | .rHeld i a => hGot K i a v.seen h
 | .rVer i a => if v.seen = -1 then h else { h with st := .rWord i a v.seen }
 | .rWord i a one => { h with st := .rAgain i a one v.seen }
 | .rAgain i a one w => if v.seen ≠ one then { h with st := .rVer i a } else
   let x1 := if (entIdx h.x.reads (a.tmod K.c.s)).isSome then h.x else { h.x with reads := h.x.reads ++ [⟨a.tmod K.c.s, one⟩] }
   if one ≤ x1.valid then hGot K i a w { h with x := x1 } else { h with x := x1, st := .xClock (.rd i a w) }
 | .xClock k => hExStill K k v.seen h.x.reads h
 | .xVer k c [] => h
 | .xVer k c (e :: r) => if v.seen ≠ e.val then hFail K h else hExStill K k c r h
 | .gStat i a => if 0 < v.seen.tmod 8 then hFail K h else { h with st := .gOwn i a }
 | .gOwn i a => if v.seen = 0 then { h with x := { h.x with held := h.x.held ++ [a.tmod K.c.s] }, st := .gVer i a } else if h.rank = 0 then hFail K h else { h with st := .gTheir i a v.seen }
 | .gTheir i a u => if 0 < v.seen.tdiv 8 ∧ v.seen.tdiv 8 < h.rank then hFail K { h with x := { h.x with way := u - 1 } } else if v.seen.tmod 8 = 0 then { h with st := .gMark i a u v.seen } else { h with st := .gStat i a }
 | .gMark i a u th => { h with st := .gStat i a }
 | .gVer i a => if h.x.valid < v.seen then { h with st := .xClock (.wr i a) } else hWrote K i a h
 | .tTake => { h with rank := v.seen + 1, st := .tShow }
 | .tShow => if v.seen ≠ 0 then hFail K h else hGo K h
 | .cStat => if 0 < v.seen.tmod 8 then hFail K h else { h with st := .cGate }
 | .cGate => { h with x := { h.x with inGate := v.seen == 0 }, st := if v.seen = 0 then .cClock else .cGate }
 | .cClock => if v.seen ≠ h.x.valid then hStillAt v.seen h.x.reads h else hShutAt v.seen h.x.held h
 | .cVer c [] => h
 | .cVer c (e :: r) => if v.seen ≠ e.val then hFail K h else hStillAt c r h
 | .cShut c [] => h
 | .cShut c (s :: r) => hShutAt c r h
 | .cStamp c => { h with list := modLast h.list (fun t => { t with stamp := c + 1 }), st := .cLeave c }
 | .cLeave c => hWordAt c h.x.writes h
 | .cWord c [] => h
 | .cWord c (e :: r) => hWordAt c r h
 | .cOpen c [] => h
 | .cOpen c (s :: r) => { h with st := .cOwn c (s :: r) }
 | .cOwn c [] => h
 | .cOwn c (s :: r) => hOpenAt c r h
 | .free e [] => h
 | .free e (s :: r) => hFreeAt e r h
 | .fin e => hTo K (h.job + 1) { h.ended v.num e with ends := h.ends.set h.job ⟨e, regOf h.x 0, regOf h.x 1, regOf h.x 2, regOf h.x 3⟩ }
 | .fGate => hFailOwn K h.x.held h
 | .fOwn [] => h
 | .fOwn (s :: r) => hFailOwn K r h
 | .fTake => { h with rank := v.seen + 1, st := .fStat }
 | .fStat => if 0 ≤ (if 0 < v.seen.tmod 8 then v.seen.tmod 8 - 1 else h.x.way) then { h.ended v.num 5 with st := .wait (if 0 < v.seen.tmod 8 then v.seen.tmod 8 - 1 else h.x.way) } else hRest K v.draw (h.ended v.num 5)
 | .wait win => if v.seen.tdiv 8 = 0 ∨ (0 < h.rank ∧ h.rank < v.seen.tdiv 8) then { h with st := .start } else h
 | .rest n => if n ≤ 1 then { h with st := .start } else { h with st := .rest (n - 1) }
def hRun (K : Cx) (h : Th) (l : List AnsD) : Th := l.foldl (hNext K) h
def hInit (K : Cx) : Th := hTo K 0 ⟨0, 0, [], K.jobs.map fun _ => ⟨0, 0, 0, 0, 0⟩, 0, newTS [] 0, .idle⟩
def ansOf (E : Env) : List AnsD := (List.range E.seen.length).map fun i => ⟨E.seen.getD i 0, E.draws.getD i 0, E.whens.getD i 0⟩
structure Eqs (E : Env) (p : Nat) (s : LS) (x : TS) (j : Nat) (h : Th) : Prop where
 over : s.over = false
 pos : s.pos ≤ E.seen.length
 lo : p ≤ s.pos
 rank : h.rank = s.rank
 fails : h.fails = s.fails
 list : h.list = s.list
 ends : h.ends = s.ends
 x : h.x = x
 job : h.job = j
def Runs (E : Env) (F : Th) (p : Nat) (h : Th) : Prop := hRun E.cx h ((ansOf E).drop p) = F
structure Over (E : Env) (F : Th) (s : LS) : Prop where
 over : s.over = true
 next : s.next = hOut E.cx F
 list : s.list = F.list
 ends : s.ends = F.ends
def ansAt (E : Env) (p : Nat) : AnsD := ⟨E.seen.getD p 0, E.draws.getD p 0, E.whens.getD p 0⟩
theorem ansOf_drop (E : Env) (p : Nat) (h : p < E.seen.length) : (ansOf E).drop p = ansAt E p :: (ansOf E).drop (p + 1) := by
 have hl : p < (ansOf E).length := by simpa [ansOf] using h
 rw [List.drop_eq_getElem_cons hl]
 congr 1
 simp [ansOf, ansAt]
theorem Eqs.ask {E : Env} {p : Nat} {F : Th} {s : LS} {x : TS} {j : Nat} {h : Th} (A : Eqs E p s x j h) (R : Runs E F s.pos h) {q : AskD} (hq : hOut E.cx h = q) :
  (∃ s', mAsk E s q = (0, s') ∧ s'.over = true ∧ Over E F s') ∨
   (∃ s', mAsk E s q = ((ansAt E s.pos).seen, s') ∧ s'.over = false ∧ s.pos < E.seen.length ∧ s'.pos = s.pos + 1 ∧ Eqs E p s' x j h ∧ Runs E F s'.pos (hNext E.cx h (ansAt E s.pos))) := by
 unfold mAsk
 rw [if_neg (by rw [A.over]; decide)]
 by_cases hp : E.seen.length ≤ s.pos
 ·left
  rw [if_pos hp]
  refine ⟨_, rfl, rfl, ?_⟩
  have : F = h := by
   have e : (ansOf E).drop s.pos = [] := List.drop_eq_nil_of_le (by simpa [ansOf] using hp)
   have := R
   unfold Runs at this
   rw [e] at this
   exact this.symm
  exact ⟨rfl, by rw [this]; exact hq.symm, by rw [this]; exact A.list.symm, by rw [this]; exact A.ends.symm⟩
 ·right
  rw [if_neg hp]
  refine ⟨_, rfl, A.over, by omega, rfl, ⟨A.over, by show s.pos + 1 ≤ _; omega, by have := A.lo; show p ≤ s.pos + 1; omega, A.rank, A.fails, A.list, A.ends, A.x, A.job⟩, ?_⟩
  have := R
  unfold Runs at this ⊢
  rw [ansOf_drop E s.pos (by omega)] at this
  exact this
theorem Eqs.st {E : Env} {p : Nat} {s : LS} {x : TS} {j : Nat} {h : Th} (A : Eqs E p s x j h) (a : St) : Eqs E p s x j { h with st := a } := ⟨A.over, A.pos, A.lo, A.rank, A.fails, A.list, A.ends, A.x, A.job⟩
theorem Eqs.noted {E : Env} {p : Nat} {s : LS} {x : TS} {j : Nat} {h : Th} (A : Eqs E p s x j h) (op a v : Int) : Eqs E p (mNoted s op a v) x j (h.noted op a v) :=
 ⟨A.over, A.pos, A.lo, A.rank, A.fails, by show modLast h.list _ = modLast s.list _; rw [A.list], A.ends, A.x, A.job⟩
theorem Eqs.setx {E : Env} {p : Nat} {s : LS} {x : TS} {j : Nat} {h : Th} (A : Eqs E p s x j h) (y : TS) : Eqs E p s y j { h with x := y } := ⟨A.over, A.pos, A.lo, A.rank, A.fails, A.list, A.ends, rfl, A.job⟩
theorem Eqs.put {E : Env} {p : Nat} {s : LS} {x : TS} {j : Nat} {h : Th} (A : Eqs E p s x j h) (i : InsD) (a : Int) : Eqs E p (mNoted s 8 a (regOf x i.b)) { x with writes := putEnt x.writes a (regOf x i.b) } j (hPut i a h) := by
 have := (A.setx { x with writes := putEnt x.writes a (regOf x i.b) }).noted 8 a (regOf x i.b)
 unfold hPut
 rw [A.x]
 exact this
theorem hStep_begun (K : Cx) (h : Th) (hb : (hStep K h).1 = true) : (h.x.begun : Int) ≠ K.c.f ∧ (hStep K h).2.x.begun = h.x.begun + 1 := by
 unfold hStep at hb ⊢
 by_cases h1 : h.x.place = h.x.code.length
 ·rw [if_pos h1] at hb; cases hb
 rw [if_neg h1] at hb ⊢
 by_cases h2 : (h.x.begun : Int) = K.c.f
 ·rw [if_pos h2] at hb; cases hb
 rw [if_neg h2] at hb ⊢
 refine ⟨h2, ?_⟩
 simp only at hb ⊢
 generalize insAt h.x.code h.x.place = i at *
 by_cases h3 : formedB i h.x.code.length = false
 ·rw [if_pos h3] at hb; cases hb
 rw [if_neg h3] at hb ⊢
 by_cases o0 : i.op = 0
 ·rw [if_pos o0] at hb; cases hb
 rw [if_neg o0] at hb ⊢
 by_cases o1 : i.op = 1
 ·rw [if_pos o1] at hb; cases hb
 rw [if_neg o1] at hb ⊢
 by_cases o2 : i.op = 2
 ·rw [if_pos o2]; rfl
 rw [if_neg o2] at hb ⊢
 by_cases o3 : i.op = 3
 ·rw [if_pos o3]; rfl
 rw [if_neg o3] at hb ⊢
 by_cases o4 : i.op = 4
 ·rw [if_pos o4]; rfl
 rw [if_neg o4] at hb ⊢
 by_cases o5 : i.op = 5
 ·rw [if_pos o5]
 rw [if_neg o5] at hb ⊢
 by_cases o6 : i.op = 6
 ·rw [if_pos o6]
  show (if _ then _ else _ : TS).begun = _
  split <;> rfl
 rw [if_neg o6] at hb ⊢
 by_cases o7 : i.op = 7
 ·rw [if_pos o7] at hb ⊢
  unfold hRead at hb ⊢
  simp only at hb ⊢
  split at hb
  ·cases hb
  ·rename_i hw
   rw [if_neg hw]
   cases hk : entIdx h.x.writes (regOf { h.x with begun := h.x.begun + 1, place := h.x.place + 1 } i.b) with
   | none => rw [hk] at hb; cases hb
   | some k => rfl
 ·rw [if_neg o7] at hb ⊢
  unfold hWrite at hb ⊢
  simp only at hb ⊢
  split at hb
  ·cases hb
  ·rename_i hw
   rw [if_neg hw]
   split at hb
   ·rename_i hh
    rw [if_pos hh]
    rfl
   ·cases hb
theorem hGo_eq (K : Cx) (h : Th) (hb : (h.x.begun : Int) ≤ K.c.f) : hGo K h = if (hStep K h).1 then hGo K (hStep K h).2 else (hStep K h).2 := by
 have e : K.c.f.toNat + 1 - h.x.begun = (K.c.f.toNat - h.x.begun) + 1 := by omega
 unfold hGo
 rw [e]
 show (if (hStep K h).1 then hAdv K _ (hStep K h).2 else (hStep K h).2) = _
 by_cases hs : (hStep K h).1 = true
 ·obtain ⟨h1, h2⟩ := hStep_begun K h hs
  rw [if_pos hs, if_pos hs, h2]
  congr 1
  omega
 ·rw [if_neg hs, if_neg hs]
theorem Eqs.ended {E : Env} {p : Nat} {s : LS} {x : TS} {j : Nat} {h : Th} (A : Eqs E p s x j h) (fate num : Int) (hn : num = E.whens.getD (s.pos - 1) 0) : Eqs E p (mEnded E s fate) x j (h.ended num fate) :=
 ⟨A.over, A.pos, A.lo, A.rank, A.fails, by show modLast h.list _ = modLast s.list _; rw [A.list, hn], A.ends, A.x, A.job⟩
end Go.Proofs.YtejadojilncbjabGreat
namespace Go.Proofs.YtejadojilncbjabGreat
open Go.RowKit
set_option linter.unusedVariables false
structure Hd where
 ma : Option Addr
 ml : Nat
 mc : Nat
 ja : Option Addr
 jc : Nat
 sa : Option Addr
 sc : Nat
 da : Option Addr
 dc : Nat
 wa : Option Addr
 wc : Nat
 ea : Option Addr
 ec : Nat
def lifeArr (E : Env) (H : Hd) (la : Option Addr) (lc : Nat) (s : LS) : Array Value :=
 #[.int .i64 E.c.t, .int .i64 E.c.wd, .int .i64 E.c.s, .int .i64 E.c.g, .int .i64 E.c.r, .int .i64 E.c.cp, .int .i64 E.c.f, .slice H.ma H.ml H.mc, .slice H.ja E.jobs.length H.jc,
     .int .i64 E.me, .slice H.sa E.seen.length H.sc, .slice H.da E.draws.length H.dc, .slice H.wa E.whens.length H.wc, .int .i64 s.pos, .bool s.over,
     .int .i64 s.next.kind, .int .i64 s.next.cell, .int .i64 s.next.frm, .int .i64 s.next.to, .int .i64 s.rank, .int .i64 s.fails, .slice la s.list.length lc, .slice H.ea s.ends.length H.ec]
def Blk (w : World) (p : Nat) (t : TypeId) (cs : Array Value) : Prop := w.heap[p]? = some (.cells cs t (0, 0))
theorem Blk.cell {w : World} {p : Nat} {t : TypeId} {cs : Array Value} (h : Blk w p t cs) : ∀ i, w.cell? ⟨p, i, none⟩ = cs[i]? := fun i => by
 simp [World.cell?, show w.heap[p]? = some (.cells cs t (0, 0)) from h]
theorem Blk.frozen {w : World} {p : Nat} {t : TypeId} {cs : Array Value} (h : Blk w p t cs) : ∀ i, w.frozen? ⟨p, i, none⟩ = false := fun i => by
 simp [World.frozen?, show w.heap[p]? = some (.cells cs t (0, 0)) from h]
theorem Blk.lt {w : World} {p : Nat} {t : TypeId} {cs : Array Value} (h : Blk w p t cs) : p < w.heap.size := by
 rcases Nat.lt_or_ge p w.heap.size with h' | h'
 ·exact h'
 ·have : w.heap[p]? = some (.cells cs t (0, 0)) := h
  rw [Array.getElem?_eq_none h'] at this; cases this
theorem Blk.ne {w : World} {p q : Nat} {t u : TypeId} {cs ds : Array Value} (h : Blk w p t cs) (k : Blk w q u ds) (hne : t ≠ u) : p ≠ q := fun e => by
 subst e
 have h1 : w.heap[p]? = some (.cells cs t (0, 0)) := h
 have h2 : w.heap[p]? = some (.cells ds u (0, 0)) := k
 rw [h1] at h2
 simp at h2
 exact hne h2.2
theorem Blk.below {w w' : World} {p B : Nat} {t : TypeId} {cs : Array Value} (h : Blk w p t cs) (hb : Below B w w') (hp : p < B) : Blk w' p t cs := (hb.block p hp).trans h
theorem Blk.drewN {w : World} {p : Nat} {t : TypeId} {cs : Array Value} (h : Blk w p t cs) (n : Nat) : Blk (w.drewN n) p t cs := h
theorem Blk.alloc {w : World} {p : Nat} {t : TypeId} {cs : Array Value} (h : Blk w p t cs) (o : Obj) : Blk (w.alloc o) p t cs := h.below ((Below.refl _ _).alloc (Nat.le_refl _) o) h.lt
theorem Blk.new (w : World) (t : TypeId) (cs : Array Value) : Blk (w.alloc (.cells cs t)) w.heap.size t cs := heap_alloc_new w _
structure Only (p : Nat) (w w' : World) : Prop where
 os : w'.os = w.os
 tape : w'.tape = w.tape
 output : w'.output = w.output
 size : w.heap.size ≤ w'.heap.size
 block : ∀ k, k < w.heap.size → k ≠ p → w'.heap[k]? = w.heap[k]?
theorem Only.refl (p : Nat) (w : World) : Only p w w := ⟨rfl, rfl, rfl, Nat.le_refl _, fun _ _ _ => rfl⟩
theorem Only.trans {p : Nat} {a b c : World} (h : Only p a b) (k : Only p b c) : Only p a c :=
 ⟨k.os.trans h.os, k.tape.trans h.tape, k.output.trans h.output, Nat.le_trans h.size k.size, fun i hi hp => (k.block i (Nat.lt_of_lt_of_le hi h.size) hp).trans (h.block i hi hp)⟩
theorem Only.below {p : Nat} {w w' : World} (h : Below w.heap.size w w') : Only p w w' := ⟨h.os, h.tape, h.output, h.size, fun k hk _ => h.block k hk⟩
theorem Only.drewN {p : Nat} {w w' : World} (h : Only p w w') (n : Nat) : Only p w (w'.drewN n) := ⟨h.os, h.tape, h.output, h.size, h.block⟩
theorem Only.drew {p : Nat} {w w' : World} (h : Only p w w') : Only p w w'.drew := ⟨h.os, h.tape, h.output, h.size, h.block⟩
theorem Only.set {p i : Nat} {w w' : World} {v : Value} (h : Only p w w') : Only p w (w'.setCell ⟨p, i, none⟩ v) :=
 h.trans ⟨rfl, rfl, rfl, by simp [World.setCell], fun k _ hk => Below.heap_setCell _ _ _ _ (by simpa using hk)⟩
theorem Blk.only {w w' : World} {p q : Nat} {t : TypeId} {cs : Array Value} (h : Blk w q t cs) (ho : Only p w w') (hne : q ≠ p) : Blk w' q t cs := (ho.block q h.lt hne).trans h
theorem Blk.set {w : World} {p i : Nat} {t : TypeId} {cs : Array Value} {v : Value} (h : Blk w p t cs) : Blk (w.setCell ⟨p, i, none⟩ v) p t (cs.setIfInBounds i v) := by
 show (w.setCell ⟨p, i, none⟩ v).heap[p]? = _
 rw [setCell_eq_setRow w p i cs t (0, 0) v h]
 exact setRow_heap w p _ _ t _ h
theorem Blk.congr {w : World} {p : Nat} {t : TypeId} {cs ds : Array Value} (h : Blk w p t cs) (e : cs = ds) : Blk w p t ds := e ▸ h
theorem Ints.only {p : Nat} {w w' : World} {B : Nat} {a : Option Addr} {zs : List Int} (h : Ints w B a zs) (ho : Only p w w') (hne : ∀ b off, a = some ⟨b, off, none⟩ → zs ≠ [] → b ≠ p) : Ints w' B a zs := by
 intro i hi
 obtain ⟨b, off, ha, hlt, hc⟩ := h i hi
 refine ⟨b, off, ha, hlt, ?_⟩
 have hz : zs ≠ [] := fun e => by simp [e] at hi
 rw [World.cell?_of_block (w := w) (ho.block b (block_lt hc) (hne b off ha hz))]
 exact hc
end Go.Proofs.YtejadojilncbjabGreat
namespace Go.Proofs.YtejadojilncbjabGreat
open Go.RowKit
set_option linter.unusedVariables false
attribute [local go_sem ↓] Go.wp_at_zero Go.wp_at_succ
theorem wrapP (n : Int) (h1 : -1152921504606846976 ≤ n) (h2 : n ≤ 1152921504606846976) : IntKind.i64.wrap n = n := by rw [IntKind.wrap_i64]; omega
theorem isReg_any (v : Int) (w : World) : Calls Tryz.prog 138 #[.int .i64 v] w fun e w' => e = .returned (.bool (inB v 0 3)) ∧ w' = w := by
 go_enter Tryz.func138, Tryz.ntmps138
 go_wp2_with (go_at_call 110; refine (within_any _ _ _ _).mono ?_; rintro e w' ⟨rfl, rfl⟩)
 go_ret
 exact ⟨rfl, rfl⟩
theorem sum_any (a b : Int) (w : World) (h1 : 0 ≤ a ∧ a ≤ 65535) (h2 : 0 ≤ b ∧ b ≤ 65535) : Calls Tryz.prog 139 #[.int .i64 a, .int .i64 b] w fun e w' => e = .returned (.int .i64 ((a + b).tmod 65536)) ∧ w' = w := by
 obtain ⟨h1, h1'⟩ := h1
 obtain ⟨h2, h2'⟩ := h2
 have hw : IntKind.i64.wrap (a + b) = a + b := wrapP _ (by omega) (by omega)
 have hw2 : IntKind.i64.wrap (a + b - 65536) = a + b - 65536 := wrapP _ (by omega) (by omega)
 have he : (a + b).tmod 65536 = if 65535 < a + b then a + b - 65536 else a + b := by
  rw [Int.tmod_eq_emod_of_nonneg (by omega)]
  split <;> omega
 have HE : Hid ((a + b).tmod 65536 = if 65535 < a + b then a + b - 65536 else a + b) := he
 clear he
 by_cases h : 65535 < a + b
 ·go_enter Tryz.func139, Tryz.ntmps139
  go_wp2
  go_ret
  exact ⟨by rw [HE.out, if_pos h]; rfl, rfl⟩
 ·go_enter Tryz.func139, Tryz.ntmps139
  go_wp2
  go_ret
  exact ⟨by rw [HE.out, if_neg (by omega)]; rfl, rfl⟩
theorem diff_any (a b : Int) (w : World) (h1 : 0 ≤ a ∧ a ≤ 65535) (h2 : 0 ≤ b ∧ b ≤ 65535) : Calls Tryz.prog 140 #[.int .i64 a, .int .i64 b] w fun e w' => e = .returned (.int .i64 ((a + 65535 + 1 - b).tmod 65536)) ∧ w' = w := by
 obtain ⟨h1, h1'⟩ := h1
 obtain ⟨h2, h2'⟩ := h2
 have hw : IntKind.i64.wrap (a - b) = a - b := wrapP _ (by omega) (by omega)
 have hw2 : IntKind.i64.wrap (a - b + 65536) = a - b + 65536 := wrapP _ (by omega) (by omega)
 have he : (a + 65535 + 1 - b).tmod 65536 = if a - b < 0 then a - b + 65536 else a - b := by
  rw [Int.tmod_eq_emod_of_nonneg (by omega)]
  split <;> omega
 have HE : Hid ((a + 65535 + 1 - b).tmod 65536 = if a - b < 0 then a - b + 65536 else a - b) := he
 clear he
 by_cases h : a - b < 0
 ·go_enter Tryz.func140, Tryz.ntmps140
  go_wp2
  go_ret
  exact ⟨by rw [HE.out, if_pos h]; rfl, rfl⟩
 ·go_enter Tryz.func140, Tryz.ntmps140
  go_wp2
  go_ret
  exact ⟨by rw [HE.out, if_neg (by omega)]; rfl, rfl⟩
set_option maxHeartbeats 2000000 in
theorem wellFormed_core (op a b c n : Int) (w : World) :
  Calls Tryz.prog 123 #[.agg #[.int .i64 op, .int .i64 a, .int .i64 b, .int .i64 c], .int .i64 n] w fun e w' =>
   e = .returned (.bool (formedB ⟨op, a, b, c⟩ n)) ∧ Below w.heap.size w w' := by
 by_cases h0 : op = 0
 ·subst h0
  go_enter Tryz.func123, Tryz.ntmps123
  go_wp2_with (first | (go_at_call 110; refine (within_any _ _ _ _).mono ?_; rintro e w' ⟨rfl, rfl⟩) | (go_at_call 138; refine (isReg_any _ _).mono ?_; rintro e w' ⟨rfl, rfl⟩))
  all_goals
   go_ret
   exact ⟨by simp [formedB, *], (Below.refl _ _).alloc (Nat.le_refl _) _⟩
 by_cases h1 : op = 1
 ·subst h1
  go_enter Tryz.func123, Tryz.ntmps123
  go_wp2_with (first | (go_at_call 110; refine (within_any _ _ _ _).mono ?_; rintro e w' ⟨rfl, rfl⟩) | (go_at_call 138; refine (isReg_any _ _).mono ?_; rintro e w' ⟨rfl, rfl⟩))
  all_goals
   go_ret
   exact ⟨by simp [formedB, *], (Below.refl _ _).alloc (Nat.le_refl _) _⟩
 by_cases h2 : op = 2
 ·subst h2
  go_enter Tryz.func123, Tryz.ntmps123
  go_wp2_with (first | (go_at_call 110; refine (within_any _ _ _ _).mono ?_; rintro e w' ⟨rfl, rfl⟩) | (go_at_call 138; refine (isReg_any _ _).mono ?_; rintro e w' ⟨rfl, rfl⟩))
  all_goals
   go_ret
   exact ⟨by simp [formedB, *], (Below.refl _ _).alloc (Nat.le_refl _) _⟩
 by_cases h3 : op = 3
 ·subst h3
  go_enter Tryz.func123, Tryz.ntmps123
  go_wp2_with (first | (go_at_call 110; refine (within_any _ _ _ _).mono ?_; rintro e w' ⟨rfl, rfl⟩) | (go_at_call 138; refine (isReg_any _ _).mono ?_; rintro e w' ⟨rfl, rfl⟩))
  all_goals
   go_ret
   exact ⟨by simp [formedB, *], (Below.refl _ _).alloc (Nat.le_refl _) _⟩
 by_cases h4 : op = 4
 ·subst h4
  go_enter Tryz.func123, Tryz.ntmps123
  go_wp2_with (first | (go_at_call 110; refine (within_any _ _ _ _).mono ?_; rintro e w' ⟨rfl, rfl⟩) | (go_at_call 138; refine (isReg_any _ _).mono ?_; rintro e w' ⟨rfl, rfl⟩))
  all_goals
   go_ret
   exact ⟨by simp [formedB, *], (Below.refl _ _).alloc (Nat.le_refl _) _⟩
 by_cases h5 : op = 5
 ·subst h5
  go_enter Tryz.func123, Tryz.ntmps123
  go_wp2_with (first | (go_at_call 110; refine (within_any _ _ _ _).mono ?_; rintro e w' ⟨rfl, rfl⟩) | (go_at_call 138; refine (isReg_any _ _).mono ?_; rintro e w' ⟨rfl, rfl⟩))
  all_goals
   go_ret
   exact ⟨by simp [formedB, *], (Below.refl _ _).alloc (Nat.le_refl _) _⟩
 by_cases h6 : op = 6
 ·subst h6
  go_enter Tryz.func123, Tryz.ntmps123
  go_wp2_with (first | (go_at_call 110; refine (within_any _ _ _ _).mono ?_; rintro e w' ⟨rfl, rfl⟩) | (go_at_call 138; refine (isReg_any _ _).mono ?_; rintro e w' ⟨rfl, rfl⟩))
  all_goals
   go_ret
   exact ⟨by simp [formedB, *], (Below.refl _ _).alloc (Nat.le_refl _) _⟩
 by_cases h7 : op = 7
 ·subst h7
  go_enter Tryz.func123, Tryz.ntmps123
  go_wp2_with (first | (go_at_call 110; refine (within_any _ _ _ _).mono ?_; rintro e w' ⟨rfl, rfl⟩) | (go_at_call 138; refine (isReg_any _ _).mono ?_; rintro e w' ⟨rfl, rfl⟩))
  all_goals
   go_ret
   exact ⟨by simp [formedB, *], (Below.refl _ _).alloc (Nat.le_refl _) _⟩
 by_cases h8 : op = 8
 ·subst h8
  go_enter Tryz.func123, Tryz.ntmps123
  go_wp2_with (first | (go_at_call 110; refine (within_any _ _ _ _).mono ?_; rintro e w' ⟨rfl, rfl⟩) | (go_at_call 138; refine (isReg_any _ _).mono ?_; rintro e w' ⟨rfl, rfl⟩))
  all_goals
   go_ret
   exact ⟨by simp [formedB, *], (Below.refl _ _).alloc (Nat.le_refl _) _⟩
 have HF : Hid (formedB ⟨op, a, b, c⟩ n = false) := by
  show formedB _ _ = false
  simp [formedB, h0, h1, h2, h3, h4, h5, h6, h7, h8]
 have g0 : (op == 0) = false := by simpa using h0
 have g1 : (op == 1) = false := by simpa using h1
 have g2 : (op == 2) = false := by simpa using h2
 have g3 : (op == 3) = false := by simpa using h3
 have g4 : (op == 4) = false := by simpa using h4
 have g5 : (op == 5) = false := by simpa using h5
 have g6 : (op == 6) = false := by simpa using h6
 have g7 : (op == 7) = false := by simpa using h7
 have g8 : (op == 8) = false := by simpa using h8
 clear h0 h1 h2 h3 h4 h5 h6 h7 h8
 go_enter Tryz.func123, Tryz.ntmps123
 go_wp2
 go_ret
 exact ⟨by rw [HF.out]; rfl, (Below.refl _ _).alloc (Nat.le_refl _) _⟩
theorem Tryz.info82 : (Tryz.prog.info? 82).map (fun i => (i.zero, i.size, i.bytes)) = some (some (.agg #[.int .i64 0, .int .i64 0, .int .i64 0, .int .i64 0, .int .i64 0, .int .i64 0, .int .i64 0, .slice none 0 0]), 8, 80) := by kernel_rfl
end Go.Proofs.YtejadojilncbjabGreat
