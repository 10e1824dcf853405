import Derived.Test.YtejadojilncbjaaGreatG24
import Derived.Test.YtejadojilncbjaaGreatG01
import Derived.Test.YtejadojilncbjaaGreatG21
import Derived.Deep.LoopGhost
namespace Go.Proofs.YtejadojilncbjaaGreat
set_option linter.unusedVariables false
structure PT where
 c : Cfg
 num : Int
 mine : List Int
 cur : Nat
 res : List ResD
 rank : Int
 fails : Int
 rest : Int
 step : Int
 order : AskD
 aTh : Int
 aJob : Int
 aStart : Int
 aEnd : Int
 valid : Int
 aStamp : Int
 aFate : Int
 notes : List NoteD
 m : MS
 turn : TurnD
 reads : List EntD
 writes : List EntD
 held : List Int
 version : Int
 value : Int
 rival : Int
 wayTo : Int
 clock : Int
 at_ : Nat
def PT.told (t : PT) : AttD := ⟨t.aTh, t.aJob, t.aStart, t.aEnd, t.valid, t.aStamp, t.aFate, t.notes⟩
def cOwnOf (c : Cfg) (s : Int) : Int := 3 + c.s + s
def cStaOf (c : Cfg) (t : Int) : Int := 3 + 2 * c.s + t
def cWrdOf (c : Cfg) (a : Int) : Int := 3 + 2 * c.s + c.t + a
def yLoad (step cell : Int) (t : PT) : PT := { t with step := step, order := ⟨1, cell, 0, 0⟩ }
def yStore (step cell put : Int) (t : PT) : PT := { t with step := step, order := ⟨2, cell, 0, put⟩ }
def ySwap (step cell frm put : Int) (t : PT) : PT := { t with step := step, order := ⟨3, cell, frm, put⟩ }
def yTake (step cell : Int) (t : PT) : PT := { t with step := step, order := ⟨4, cell, 0, 0⟩ }
def PT.sta (t : PT) : Int := cStaOf t.c t.num
def PT.staOf (t : PT) (name : Int) : Int := cStaOf t.c (name - 1)
def PT.stripe (t : PT) : Int := t.turn.addr.tmod t.c.s
def PT.holds (t : PT) (s : Int) : Bool := t.held.any fun h => h == s
def yBegin (t : PT) : PT := if t.cur < t.mine.length then yLoad 2 0 t else { t with step := 0 }
def yEnd (t : PT) : PT := yStore 27 t.sta 0 t
def yRes (t : PT) : ResD := ⟨t.turn.fate, t.m.regs.getD 0 0, t.m.regs.getD 1 0, t.m.regs.getD 2 0, t.m.regs.getD 3 0⟩
def yConc (fate num : Int) (t : PT) : PT := { t with aFate := fate, aEnd := num }
def yNextJob (num : Int) (t : PT) : PT := yBegin { t with aFate := t.turn.fate, aEnd := num, res := t.res ++ [yRes t], cur := t.cur + 1, rank := 0, fails := 0 }
def yGiveBack (step : Int) (t : PT) : PT := yStore step (cOwnOf t.c (t.held.getD t.at_ 0)) 0 t
def yLetGo (t : PT) : PT := if t.at_ < t.held.length then yGiveBack 26 t else yEnd t
def yFinish (t : PT) : PT := if t.held.length = 0 then yEnd t else yLoad 16 t.sta t
def yShow (t : PT) : PT := yStore 31 t.sta (8 * t.rank) t
def yCount (t : PT) : PT := if t.rank = 0 ∧ t.c.r < t.fails + 1 then yTake 30 1 { t with fails := t.fails + 1 } else yShow { t with fails := t.fails + 1 }
def yUndo (t : PT) : PT := if t.at_ < t.held.length then yGiveBack 29 t else yCount t
def yFail (t : PT) : PT := yUndo { t with at_ := 0 }
def yFailGate (t : PT) : PT := yStore 28 2 0 t
def yFollowFail (put : Int) (t : PT) : PT :=
 if t.step = 28 then yFail t else if t.step = 29 then yUndo { t with at_ := t.at_ + 1 } else if t.step = 30 then yShow { t with rank := put } else t
def yRestBy (t : PT) (draw : Int) : Int := if draw < 0 then 0 else draw.tmod (1 + if t.c.cp < t.fails then t.c.cp else t.fails)
def yWinner (t : PT) (status : Int) : Int := if status.tmod 8 = 0 then t.wayTo else status.tmod 8
def yLose (status draw : Int) (t : PT) : PT := if yWinner t status ≠ 0 then yLoad 32 (t.staOf (yWinner t status)) t else yBegin { t with rest := yRestBy t draw }
def yAwait (status : Int) (t : PT) : PT := if status.tdiv 8 = 0 ∨ (0 < t.rank ∧ t.rank < status.tdiv 8) then yBegin t else t
def yLook (st v : Int) (t : PT) : PT := if (entIdx t.reads st).isSome then t else { t with reads := t.reads ++ [⟨st, v⟩] }
def yLog (a v : Int) (t : PT) : PT := { t with notes := t.notes ++ [⟨t.turn.op, a, v⟩], writes := putEnt t.writes a v }
def yGive (v : Int) (t : PT) : PT := { t with m := { t.m with regs := t.m.regs.set t.m.into.toNat v }, notes := t.notes ++ [⟨t.turn.op, t.turn.addr, v⟩], step := 1 }
def yGet (t : PT) : PT := yLoad 7 t.sta t
def yMeet (rival : Int) (t : PT) : PT := if t.rank = 0 then yFail t else yLoad 9 (t.staOf rival) { t with rival := rival }
def yWeigh (status : Int) (t : PT) : PT :=
 if 0 < status.tdiv 8 ∧ status.tdiv 8 < t.rank then yFail { t with wayTo := t.rival } else if status.tmod 8 ≠ 0 then yGet t else ySwap 10 (t.staOf t.rival) status (status + (t.num + 1)) t
def yWriteGot (t : PT) : PT := if t.rank = 0 ∧ 0 < t.c.g ∧ (t.held.length : Int) = t.c.g then yTake 14 1 (yLog t.turn.addr t.turn.val t) else { yLog t.turn.addr t.turn.val t with step := 1 }
def yFollowTicket (seen put : Int) (t : PT) : PT :=
 if t.step = 14 then ySwap 15 t.sta 0 (8 * put) { t with rank := put } else if t.step = 15 then (if seen ≠ 0 then yFail t else { t with step := 1 }) else t
def yExtend (t : PT) : PT := yLoad 12 0 t
def yEndExt (t : PT) : PT := if t.turn.op = 7 then yGive t.value t else yWriteGot t
def yExtNext (t : PT) : PT := if t.at_ < t.reads.length then yLoad 13 (hVer (t.reads.getD t.at_ ⟨0, 0⟩).what) t else yEndExt { t with valid := t.clock }
def yFollowExt (seen : Int) (t : PT) : PT :=
 if t.step = 12 then yExtNext { t with clock := seen, at_ := 0 } else if t.step = 13 then (if seen ≠ (t.reads.getD t.at_ ⟨0, 0⟩).val then yFail t else yExtNext { t with at_ := t.at_ + 1 }) else yExtNext t
def yFollowGet (seen : Int) (t : PT) : PT :=
 if t.step = 7 then (if seen.tmod 8 ≠ 0 then yFail t else ySwap 8 (cOwnOf t.c t.stripe) 0 (t.num + 1) t)
 else if t.step = 8 then (if seen ≠ 0 then yMeet seen t else yLoad 11 (hVer t.stripe) { t with held := t.held ++ [t.stripe] })
 else if t.step = 9 then yWeigh seen t
 else if t.step = 10 then yGet t
 else if t.step = 11 then (if t.valid < seen then yExtend t else yWriteGot t)
 else t
def yRead (t : PT) : PT := match entIdx t.writes t.turn.addr with
 | some k => yGive (t.writes.getD k ⟨0, 0⟩).val t
 | none => if t.holds t.stripe then yLoad 3 (cWrdOf t.c t.turn.addr) t else yLoad 4 (hVer t.stripe) t
def yTrust (version : Int) (t : PT) : PT :=
 if version ≠ t.version then yLoad 4 (hVer t.stripe) t
 else if t.valid < version then yExtend (yLook t.stripe version t) else yGive t.value (yLook t.stripe version t)
def yFollowRead (seen : Int) (t : PT) : PT :=
 if t.step = 3 then yGive seen t
 else if t.step = 4 then (if seen ≠ -1 then yLoad 5 (cWrdOf t.c t.turn.addr) { t with version := seen } else t)
 else if t.step = 5 then yLoad 6 (hVer t.stripe) { t with value := seen }
 else if t.step = 6 then yTrust seen t
 else t
def yWrite (t : PT) : PT := if t.holds t.stripe then { yLog t.turn.addr t.turn.val t with step := 1 } else yGet t
def yTouch (t : PT) : PT := if t.turn.op = 7 then yRead t else yWrite t
def yTurned (u : TurnD × MS) (t : PT) : PT :=
 if u.1.fate = 0 then yTouch { t with m := u.2, turn := u.1 } else if u.1.fate = 1 then yFinish { t with m := u.2, turn := u.1 } else yLetGo { t with m := u.2, turn := u.1, at_ := 0 }
def yRounds : Nat := 50
def yTurn (code : List InsD) (t : PT) : PT := yTurned (pNext t.c.f t.c.wd code yRounds t.m) t
def yTurns (code : List InsD) : Nat → PT → PT
 | 0, t => t
 | n + 1, t => if t.step = 1 then yTurns code n (yTurn code t) else t
def yShut (t : PT) : PT := if t.at_ < t.held.length then yStore 20 (hVer (t.held.getD t.at_ 0)) (-1) t else yStore 21 0 (t.clock + 1) t
def yRelease (t : PT) : PT := if t.at_ < t.held.length then yStore 24 (hVer (t.held.getD t.at_ 0)) (t.clock + 1) t else yEnd t
def yPut (t : PT) : PT := if t.at_ < t.writes.length then yStore 23 (cWrdOf t.c (t.writes.getD t.at_ ⟨0, 0⟩).what) (t.writes.getD t.at_ ⟨0, 0⟩).val t else yRelease { t with at_ := 0 }
def yCheckN : Nat → PT → PT
 | 0, t => yShut { t with at_ := 0 }
 | n + 1, t => if t.clock ≠ t.valid then (if t.holds (t.reads.getD t.at_ ⟨0, 0⟩).what then yCheckN n { t with at_ := t.at_ + 1 } else yLoad 19 (hVer (t.reads.getD t.at_ ⟨0, 0⟩).what) t) else yShut { t with at_ := 0 }
def yCheck (t : PT) : PT := yCheckN (t.reads.length - t.at_) t
def yFollowCommit (seen : Int) (t : PT) : PT :=
 if t.step = 16 then (if seen.tmod 8 ≠ 0 then yFail t else ySwap 17 2 0 (t.num + 1) t)
 else if t.step = 17 then (if seen = 0 then yLoad 18 0 t else t)
 else if t.step = 18 then yCheck { t with clock := seen, at_ := 0 }
 else if t.step = 19 then (if seen ≠ (t.reads.getD t.at_ ⟨0, 0⟩).val then yFailGate t else yCheck { t with at_ := t.at_ + 1 })
 else t
def yFollowStore (t : PT) : PT :=
 if t.step = 20 then yShut { t with at_ := t.at_ + 1 }
 else if t.step = 21 then yStore 22 2 0 { t with aStamp := t.clock + 1 }
 else if t.step = 22 then yPut { t with at_ := 0 }
 else if t.step = 23 then yPut { t with at_ := t.at_ + 1 }
 else if t.step = 24 then yStore 25 (cOwnOf t.c (t.held.getD t.at_ 0)) 0 t
 else if t.step = 25 then yRelease { t with at_ := t.at_ + 1 }
 else t
def yNew (t : PT) (seen num : Int) : PT := { t with aTh := t.num, aJob := t.mine.getD t.cur 0, aStart := num, aEnd := 0, aStamp := 0, aFate := 0, notes := [], m := ⟨[0, 0, 0, 0], 0, 0, 0⟩, turn := ⟨0, 0, 0, 0⟩, valid := seen, reads := [], writes := [], held := [], version := 0, value := 0, rival := 0, wayTo := 0, clock := 0, at_ := 0, step := 1 }
def yFollow (seen put num draw : Int) (t : PT) : PT :=
 if t.step = 2 then yNew t seen num
 else if 3 ≤ t.step ∧ t.step ≤ 6 then yFollowRead seen t
 else if 7 ≤ t.step ∧ t.step ≤ 11 then yFollowGet seen t
 else if 12 ≤ t.step ∧ t.step ≤ 13 then yFollowExt seen t
 else if 14 ≤ t.step ∧ t.step ≤ 15 then yFollowTicket seen put t
 else if 16 ≤ t.step ∧ t.step ≤ 19 then yFollowCommit seen t
 else if 20 ≤ t.step ∧ t.step ≤ 25 then yFollowStore t
 else if t.step = 26 then yLetGo { t with at_ := t.at_ + 1 }
 else if t.step = 27 then yNextJob num t
 else if 28 ≤ t.step ∧ t.step ≤ 30 then yFollowFail put t
 else if t.step = 31 then yLose seen draw (yConc 5 num t)
 else if t.step = 32 then yAwait seen t
 else t
def mineF (me : Int) : Nat → List (Int × List InsD) → List Int
 | _, [] => []
 | j, b :: r => if b.1 = me then (j : Int) :: mineF me (j + 1) r else mineF me (j + 1) r
theorem drop_cons3 {α : Type} {l r : List α} {b : α} {j : Nat} (h : l.drop j = b :: r) : l.drop (j + 1) = r ∧ j < l.length ∧ l[j]? = some b := by
 have hj : j < l.length := by
  rcases Nat.lt_or_ge j l.length with h' | h'
  ·exact h'
  ·rw [List.drop_eq_nil_of_le h'] at h; cases h
 rw [List.drop_eq_getElem_cons hj] at h
 injection h with h1 h2
 exact ⟨h2, hj, by rw [List.getElem?_eq_getElem hj, h1]⟩
theorem mineF_cons (me : Int) (j : Nat) (b : Int × List InsD) (r : List (Int × List InsD)) : mineF me j (b :: r) = if b.1 = me then (j : Int) :: mineF me (j + 1) r else mineF me (j + 1) r := rfl
theorem seek_cons (me : Int) (j : Nat) (b : Int × List InsD) (r : List (Int × List InsD)) : seek me j (b :: r) = if b.1 = me then some j else seek me (j + 1) r := rfl
theorem seek_mine (me : Int) (jobs : List (Int × List InsD)) : ∀ (l : List (Int × List InsD)) (j : Nat), jobs.drop j = l →
  (seek me j l = none ∧ mineF me j l = []) ∨ ∃ k, seek me j l = some k ∧ k < jobs.length ∧ (jobs.getD k (0, [])).1 = me ∧ mineF me j l = (k : Int) :: mineF me (k + 1) (jobs.drop (k + 1))
 | [], j, h => Or.inl ⟨rfl, rfl⟩
 | b :: r, j, h => by
  obtain ⟨h1, h2, h3⟩ := drop_cons3 h
  rw [seek_cons, mineF_cons]
  by_cases hb : b.1 = me
  ·rw [if_pos hb, if_pos hb]
   exact Or.inr ⟨j, rfl, h2, by simp [List.getD, h3, hb], by rw [h1]⟩
  ·rw [if_neg hb, if_neg hb]
   exact seek_mine me jobs r (j + 1) h1
theorem mineF_ge (me : Int) : ∀ (l : List (Int × List InsD)) (j : Nat), ∀ v ∈ mineF me j l, (j : Int) ≤ v
 | [], j, v, hv => by cases hv
 | b :: r, j, v, hv => by
  rw [mineF_cons] at hv
  split at hv
  ·rcases List.mem_cons.1 hv with h | h
   ·omega
   ·have := mineF_ge me r (j + 1) v h; omega
  ·have := mineF_ge me r (j + 1) v hv; omega
theorem mineF_pair (me : Int) : ∀ (l : List (Int × List InsD)) (j : Nat), (mineF me j l).Pairwise (· < ·)
 | [], j => List.Pairwise.nil
 | b :: r, j => by
  rw [mineF_cons]
  split
  ·exact List.Pairwise.cons (fun v hv => by have := mineF_ge me r (j + 1) v hv; omega) (mineF_pair me r (j + 1))
  ·exact mineF_pair me r (j + 1)
theorem pair_lt {l : List Int} (h : l.Pairwise (· < ·)) {i j : Nat} (hij : i < j) (hj : j < l.length) : l.getD i 0 < l.getD j 0 := by
 have h1 : l.getD i 0 = l[i]'(by omega) := by simp [List.getD, List.getElem?_eq_getElem (show i < l.length by omega)]
 have h2 : l.getD j 0 = l[j] := by simp [List.getD, List.getElem?_eq_getElem hj]
 rw [h1, h2]
 exact (List.pairwise_iff_getElem.1 h) i j (by omega) hj hij
def noRes : ResD := ⟨0, 0, 0, 0, 0⟩
structure TolF (K : Cx) (mine : List Int) (cur : Nat) (res : List ResD) (told : AttD) (list : List AttD) (ends : List ResD) : Prop where
 mi : mine = mineF K.me 0 K.jobs
 cu : cur ≤ mine.length
 tl : list = [] ∨ list.getLast? = some told
 el : ends.length = K.jobs.length
 rl : res.length = cur
 rs : ∀ i, i < cur → ends.getD (mine.getD i 0).toNat noRes = res.getD i noRes
 rz : ∀ j, (∀ i, i < cur → (mine.getD i 0).toNat ≠ j) → ends.getD j noRes = noRes
def Tol (K : Cx) (t : PT) (h : Th) : Prop := TolF K t.mine t.cur t.res t.told h.list h.ends
theorem last_mod {l : List AttD} {a : AttD} (f : AttD → AttD) (h : l.getLast? = some a) : (modLast l f).getLast? = some (f a) := by
 obtain ⟨l', rfl⟩ := List.getLast?_eq_some_iff.1 h
 unfold modLast
 have : (l' ++ [a]).modify ((l' ++ [a]).length - 1) f = l' ++ [f a] := by
  rw [show (l' ++ [a]).length - 1 = l'.length by simp]
  apply List.ext_getElem?
  intro i
  rw [List.getElem?_modify]
  rcases Nat.lt_trichotomy i l'.length with h' | h' | h'
  ·rw [List.getElem?_append_left h', List.getElem?_append_left h', show (fun a => if l'.length = i then f a else a) = id from by funext a; rw [if_neg (by omega)]; rfl]; simp
  ·subst h'; simp
  ·rw [List.getElem?_eq_none (by simp; omega), List.getElem?_eq_none (by simp; omega)]; rfl
 rw [this]
 simp
theorem TolF.mod {K : Cx} {mine : List Int} {cur : Nat} {res : List ResD} {told : AttD} {list : List AttD} {ends : List ResD} (h : TolF K mine cur res told list ends) (f : AttD → AttD) (hl : list.getLast? = some told) : TolF K mine cur res (f told) (modLast list f) ends :=
 ⟨h.mi, h.cu, Or.inr (last_mod f hl), h.el, h.rl, h.rs, h.rz⟩
structure BasF (K : Cx) (c : Cfg) (num rank fails : Int) (ml : List Int) (cur : Nat) (hrank hfails : Int) (job : Nat) (res : List ResD) (told : AttD) (list : List AttD) (ends : List ResD) : Prop where
 c : c = K.c
 num : num = K.me
 rank : rank = hrank
 fails : fails = hfails
 jlt : job < K.jobs.length
 jme : (K.jobs.getD job (0, [])).1 = K.me
 mine : ml.drop cur = (job : Int) :: mineF K.me (job + 1) (K.jobs.drop (job + 1))
 tol : TolF K ml cur res told list ends
def Bas (K : Cx) (t : PT) (h : Th) : Prop := BasF K t.c t.num t.rank t.fails t.mine t.cur h.rank h.fails h.job t.res t.told h.list h.ends
structure BaxF (K : Cx) (m : MS) (valid : Int) (reads writes : List EntD) (held : List Int) (wayTo rest : Int) (job : Nat) (x : TS) (told : AttD) (list : List AttD) : Prop where
 regs : m.regs = x.regs
 place : m.place = x.place
 begun : m.begun = x.begun
 valid : valid = x.valid
 reads : reads = x.reads
 writes : writes = x.writes
 held : held = x.held
 way : wayTo = x.way + 1
 rest : rest = 0
 code : x.code = (K.jobs.getD job (0, [])).2
 tl : list.getLast? = some told
def Bax (K : Cx) (t : PT) (h : Th) : Prop := Bas K t h ∧ BaxF K t.m t.valid t.reads t.writes t.held t.wayTo t.rest h.job h.x t.told h.list
def RdM (t : PT) (i : InsD) (a : Int) : Prop := t.turn.op = 7 ∧ t.turn.addr = a ∧ t.m.into = i.a
def WrM (t : PT) (h : Th) (i : InsD) (a : Int) : Prop := t.turn.op = 8 ∧ t.turn.addr = a ∧ t.turn.val = regOf h.x i.b
def ExM (t : PT) (h : Th) : Ex → Prop
 | .rd i a v => RdM t i a ∧ t.value = v
 | .wr i a => WrM t h i a
def SimS (K : Cx) (t : PT) (h : Th) : St → Prop
 | .idle => False
 | .start => False
 | .rest n => False
 | .wait win => False
 | .rHeld i a => h.x.inGate = false ∧ t.step = 3 ∧ RdM t i a
 | .rVer i a => h.x.inGate = false ∧ t.step = 4 ∧ RdM t i a
 | .rWord i a one => h.x.inGate = false ∧ t.step = 5 ∧ RdM t i a ∧ t.version = one
 | .rAgain i a one v => h.x.inGate = false ∧ t.step = 6 ∧ RdM t i a ∧ t.version = one ∧ t.value = v
 | .xClock k => h.x.inGate = false ∧ t.step = 12 ∧ ExM t h k
 | .xVer k c r => h.x.inGate = false ∧ t.step = 13 ∧ ExM t h k ∧ t.clock = c ∧ t.reads.drop t.at_ = r
 | .gStat i a => h.x.inGate = false ∧ t.step = 7 ∧ WrM t h i a
 | .gOwn i a => h.x.inGate = false ∧ t.step = 8 ∧ WrM t h i a
 | .gTheir i a u => h.x.inGate = false ∧ t.step = 9 ∧ WrM t h i a ∧ t.rival = u
 | .gMark i a u th => h.x.inGate = false ∧ t.step = 10 ∧ WrM t h i a
 | .gVer i a => h.x.inGate = false ∧ t.step = 11 ∧ WrM t h i a
 | .tTake => h.x.inGate = false ∧ t.step = 14
 | .tShow => h.x.inGate = false ∧ t.step = 15
 | .cStat => h.x.inGate = false ∧ t.step = 16 ∧ t.turn.fate = 1
 | .cGate => h.x.inGate = false ∧ t.step = 17 ∧ t.turn.fate = 1
 | .cClock => h.x.inGate = true ∧ t.step = 18 ∧ t.turn.fate = 1
 | .cVer c r => h.x.inGate = true ∧ t.step = 19 ∧ t.turn.fate = 1 ∧ t.clock = c ∧ c ≠ t.valid ∧ t.reads.drop t.at_ = r
 | .cShut c r => t.step = 20 ∧ t.turn.fate = 1 ∧ t.clock = c ∧ t.held.drop t.at_ = r
 | .cStamp c => t.step = 21 ∧ t.turn.fate = 1 ∧ t.clock = c
 | .cLeave c => t.step = 22 ∧ t.turn.fate = 1 ∧ t.clock = c
 | .cWord c r => t.step = 23 ∧ t.turn.fate = 1 ∧ t.clock = c ∧ t.writes.drop t.at_ = r
 | .cOpen c r => t.step = 24 ∧ t.turn.fate = 1 ∧ t.clock = c ∧ t.held.drop t.at_ = r
 | .cOwn c r => t.step = 25 ∧ t.turn.fate = 1 ∧ t.clock = c ∧ t.held.drop t.at_ = r
 | .free e r => t.step = 26 ∧ t.turn.fate = e ∧ t.held.drop t.at_ = r
 | .fin e => t.step = 27 ∧ t.turn.fate = e
 | .fGate => t.step = 28
 | .fOwn r => t.step = 29 ∧ t.held.drop t.at_ = r
 | .fTake => t.step = 30
 | .fStat => t.step = 31
def Sim (K : Cx) (t : PT) (h : Th) : Prop :=
 (h.st = .idle ∧ t.step = 0 ∧ Tol K t h) ∨ (h.st = .start ∧ Bas K t h ∧ t.rest = 0 ∧ t.step = 2 ∧ t.order = ⟨1, 0, 0, 0⟩) ∨
 (∃ n : Nat, h.st = .rest n ∧ Bas K t h ∧ t.rest = n ∧ 0 < n ∧ t.step = 2 ∧ t.order = ⟨1, 0, 0, 0⟩) ∨
 (∃ win, h.st = .wait win ∧ Bas K t h ∧ t.rest = 0 ∧ t.step = 32 ∧ t.order = ⟨1, hSta K win, 0, 0⟩) ∨
 (Bax K t h ∧ t.order = hOut K h ∧ SimS K t h h.st)
theorem Sim.mk {K : Cx} {t : PT} {h : Th} (h1 : Bax K t h) (h2 : t.order = hOut K h) (h3 : SimS K t h h.st) : Sim K t h := Or.inr (Or.inr (Or.inr (Or.inr ⟨h1, h2, h3⟩)))
section
variable {K : Cx} {t : PT} {h : Th}
theorem Bax.sta (b : Bax K t h) : t.sta = hSta K K.me := by unfold PT.sta cStaOf hSta; rw [b.1.c, b.1.num]
theorem Bax.staOf (b : Bax K t h) (u : Int) : t.staOf u = hSta K (u - 1) := by unfold PT.staOf cStaOf hSta; rw [b.1.c]
theorem Bax.own (b : Bax K t h) (s : Int) : cOwnOf t.c s = hOwn K s := by unfold cOwnOf hOwn; rw [b.1.c]
theorem Bax.wrd (b : Bax K t h) (a : Int) : cWrdOf t.c a = hWrd K a := by unfold cWrdOf hWrd; rw [b.1.c]
theorem Bax.stripe (b : Bax K t h) : t.stripe = t.turn.addr.tmod K.c.s := by unfold PT.stripe; rw [b.1.c]
theorem Bax.holds (b : Bax K t h) (s : Int) : t.holds s = heldB h.x s := by unfold PT.holds heldB; rw [b.2.held]
theorem getD_drop {α : Type} {l r : List α} {a d : α} {j : Nat} (hd : l.drop j = a :: r) : l.getD j d = a := by
 obtain ⟨_, _, h3⟩ := drop_cons3 hd
 simp [List.getD, h3]
theorem drop_nil {α : Type} {l : List α} {j : Nat} (hd : l.drop j = []) : ¬ j < l.length := by
 intro hj
 rw [List.drop_eq_getElem_cons hj] at hd
 cases hd
theorem yBegin_bas (b : Bas K t h) : yBegin t = yLoad 2 0 t := by
 unfold yBegin
 rw [if_pos (drop_cons3 b.mine).2.1]
theorem sim_start (b : Bas K t h) (hr : t.rest = 0) : Sim K (yBegin t) { h with st := .start } := by
 rw [yBegin_bas b]
 exact Or.inr (Or.inl ⟨rfl, b, hr, rfl, rfl⟩)
theorem sim_end (b : Bax K t h) (e : Int) (hfe : t.turn.fate = e) : Sim K (yEnd t) { h with st := .fin e } := by
 refine Sim.mk b ?_ ⟨rfl, hfe⟩
 show AskD.mk 2 t.sta 0 0 = ⟨2, hSta K K.me, 0, 0⟩
 rw [b.sta]
theorem sim_letgo (b : Bax K t h) (e : Int) (hfe : t.turn.fate = e) (r : List Int) (hr : t.held.drop t.at_ = r) : Sim K (yLetGo t) (hFreeAt e r h) := by
 unfold yLetGo hFreeAt
 cases r with
 | nil =>
  rw [if_neg (drop_nil hr)]
  exact sim_end b e hfe
 | cons s r =>
  rw [if_pos (drop_cons3 hr).2.1]
  refine Sim.mk b ?_ ⟨rfl, hfe, hr⟩
  show AskD.mk 2 (cOwnOf t.c (t.held.getD t.at_ 0)) 0 0 = ⟨2, hOwn K s, 0, 0⟩
  rw [getD_drop hr, b.own]
theorem sim_close (b : Bax K t h) (hg : h.x.inGate = false) (e : Int) (he : e ≠ 0) (hfe : t.turn.fate = e) : Sim K (if e = 1 then yFinish t else yLetGo { t with at_ := 0 }) (hClose e h) := by
 unfold hClose
 by_cases h1 : e = 1
 ·rw [if_pos h1]
  unfold yFinish
  rw [b.2.held]
  by_cases hh : h.x.held = []
  ·rw [if_pos (by rw [hh]; rfl), if_neg (by simp [hh]), hh]
   exact sim_end b e hfe
  ·rw [if_neg (by simp [hh]), if_pos ⟨h1, hh⟩]
   refine Sim.mk b ?_ ⟨hg, rfl, hfe.trans h1⟩
   show AskD.mk 1 t.sta 0 0 = ⟨1, hSta K K.me, 0, 0⟩
   rw [b.sta]
 ·rw [if_neg h1, if_neg (fun q => h1 q.1)]
  exact sim_letgo (t := { t with at_ := 0 }) b e hfe h.x.held b.2.held
theorem sim_show (b : Bax K t h) : Sim K (yShow t) { h with st := .fStat } := by
 refine Sim.mk b ?_ rfl
 show AskD.mk 2 t.sta 0 (8 * t.rank) = ⟨2, hSta K K.me, 0, 8 * h.rank⟩
 rw [b.sta, b.1.rank]
theorem sim_count (b : Bax K t h) : Sim K (yCount t) (hCount K h) := by
 have b1 : Bax K { t with fails := t.fails + 1 } { h with fails := h.fails + 1 } := ⟨⟨b.1.c, b.1.num, b.1.rank, by show t.fails + 1 = h.fails + 1; rw [b.1.fails], b.1.jlt, b.1.jme, b.1.mine, b.1.tol⟩, b.2⟩
 have e : (t.rank = 0 ∧ t.c.r < t.fails + 1) ↔ (h.rank = 0 ∧ K.c.r < h.fails + 1) := by rw [b.1.rank, b.1.c, b.1.fails]
 unfold yCount hCount
 by_cases hc : h.rank = 0 ∧ K.c.r < h.fails + 1
 ·rw [if_pos (e.2 hc), if_pos hc]
  exact Sim.mk (t := yTake 30 1 { t with fails := t.fails + 1 }) (h := { h with fails := h.fails + 1, st := .fTake }) b1 rfl rfl
 ·rw [if_neg (fun q => hc (e.1 q)), if_neg hc]
  exact sim_show b1
theorem sim_undo (b : Bax K t h) (r : List Int) (hr : t.held.drop t.at_ = r) : Sim K (yUndo t) (hFailOwn K r h) := by
 unfold yUndo hFailOwn
 cases r with
 | nil =>
  rw [if_neg (drop_nil hr)]
  exact sim_count b
 | cons s r =>
  rw [if_pos (drop_cons3 hr).2.1]
  refine Sim.mk b ?_ ⟨rfl, hr⟩
  show AskD.mk 2 (cOwnOf t.c (t.held.getD t.at_ 0)) 0 0 = ⟨2, hOwn K s, 0, 0⟩
  rw [getD_drop hr, b.own]
theorem sim_failed (b : Bax K t h) : Sim K (yFail t) (hFailOwn K h.x.held h) := sim_undo (t := { t with at_ := 0 }) b _ b.2.held
theorem sim_fail (b : Bax K t h) (hg : h.x.inGate = false) : Sim K (yFail t) (hFail K h) := by
 unfold hFail
 rw [if_neg (by rw [hg]; decide)]
 exact sim_failed b
theorem sim_shut (b : Bax K t h) (hfe : t.turn.fate = 1) (r : List Int) (hr : t.held.drop t.at_ = r) : Sim K (yShut t) (hShutAt t.clock r h) := by
 unfold yShut hShutAt
 cases r with
 | nil =>
  rw [if_neg (drop_nil hr)]
  exact Sim.mk b rfl ⟨rfl, hfe, rfl⟩
 | cons s r =>
  rw [if_pos (drop_cons3 hr).2.1]
  refine Sim.mk b ?_ ⟨rfl, hfe, rfl, hr⟩
  show AskD.mk 2 (hVer (t.held.getD t.at_ 0)) 0 (-1) = ⟨2, hVer s, 0, -1⟩
  rw [getD_drop hr]
theorem sim_release (b : Bax K t h) (hfe : t.turn.fate = 1) (r : List Int) (hr : t.held.drop t.at_ = r) : Sim K (yRelease t) (hOpenAt t.clock r h) := by
 unfold yRelease hOpenAt
 cases r with
 | nil =>
  rw [if_neg (drop_nil hr)]
  exact sim_end b 1 hfe
 | cons s r =>
  rw [if_pos (drop_cons3 hr).2.1]
  refine Sim.mk b ?_ ⟨rfl, hfe, rfl, hr⟩
  show AskD.mk 2 (hVer (t.held.getD t.at_ 0)) 0 (t.clock + 1) = ⟨2, hVer s, 0, t.clock + 1⟩
  rw [getD_drop hr]
theorem sim_put (b : Bax K t h) (hfe : t.turn.fate = 1) (r : List EntD) (hr : t.writes.drop t.at_ = r) : Sim K (yPut t) (hWordAt t.clock r h) := by
 unfold yPut hWordAt
 cases r with
 | nil =>
  rw [if_neg (drop_nil hr)]
  exact sim_release (t := { t with at_ := 0 }) b hfe _ b.2.held
 | cons s r =>
  rw [if_pos (drop_cons3 hr).2.1]
  refine Sim.mk b ?_ ⟨rfl, hfe, rfl, hr⟩
  show AskD.mk 2 (cWrdOf t.c (t.writes.getD t.at_ ⟨0, 0⟩).what) 0 (t.writes.getD t.at_ ⟨0, 0⟩).val = ⟨2, hWrd K s.what, 0, s.val⟩
  rw [getD_drop hr, b.wrd]
theorem sim_check : ∀ (n : Nat) (t : PT) (r : List EntD), Bax K t h → t.turn.fate = 1 → h.x.inGate = true → t.clock ≠ t.valid → t.reads.drop t.at_ = r → r.length = n → Sim K (yCheckN n t) (hStillAt t.clock r h)
 | 0, t, r, b, hfe, hg, hv, hr, hn => by
  have : r = [] := List.eq_nil_of_length_eq_zero hn
  subst this
  exact sim_shut (t := { t with at_ := 0 }) b hfe _ b.2.held
 | n + 1, t, [], b, hfe, hg, hv, hr, hn => by simp at hn
 | n + 1, t, e :: r, b, hfe, hg, hv, hr, hn => by
  unfold yCheckN hStillAt
  rw [if_pos hv, getD_drop hr, b.holds]
  split
  ·exact sim_check n { t with at_ := t.at_ + 1 } r b hfe hg hv (drop_cons3 hr).1 (by simpa using hn)
  ·exact Sim.mk b rfl ⟨hg, rfl, hfe, rfl, hv, hr⟩
theorem sim_checked (b : Bax K t h) (hfe : t.turn.fate = 1) (hg : h.x.inGate = true) (hv : t.clock ≠ t.valid) (r : List EntD) (hr : t.reads.drop t.at_ = r) : Sim K (yCheck t) (hStillAt t.clock r h) := by
 unfold yCheck
 exact sim_check _ t r b hfe hg hv hr (by rw [← hr, List.length_drop])
theorem sim_check0 (b : Bax K t h) (hfe : t.turn.fate = 1) (hv : t.clock = t.valid) : Sim K (yCheck t) (hShutAt t.clock h.x.held h) := by
 unfold yCheck
 cases t.reads.length - t.at_ with
 | zero => exact sim_shut (t := { t with at_ := 0 }) b hfe _ b.2.held
 | succ n =>
  unfold yCheckN
  rw [if_neg (fun q => q hv)]
  exact sim_shut (t := { t with at_ := 0 }) b hfe _ b.2.held
end
end Go.Proofs.YtejadojilncbjaaGreat
namespace Go.Proofs.YtejadojilncbjaaGreat
open Go.RowKit
set_option linter.unusedVariables false
def jobsOf (c : Cfg) (mem : List Int) (jobs : List (Int × List InsD)) (ps : List PickD) : List ResD :=
 (List.range jobs.length).map fun j => ((gAt c mem jobs ps ps.length).th (jobs.getD j (0, [])).1).ends.getD j noRes
def resPad (rs : List ResD) (k : Nat) : List ResD := rs.take k ++ List.replicate (rs.length - k) noRes
theorem resPad_len (rs : List ResD) (k : Nat) (hk : k ≤ rs.length) : (resPad rs k).length = rs.length := by unfold resPad; simp; omega
theorem resPad_next (rs : List ResD) (k : Nat) (hk : k < rs.length) : resPad rs (k + 1) = (resPad rs k).set k (rs.getD k noRes) := by
 unfold resPad
 apply List.ext_getElem?
 intro i
 rw [List.getElem?_set]
 by_cases hi : k = i
 ·subst hi
  rw [if_pos rfl, if_pos (by simp; omega), List.getElem?_append_left (by simp; omega), List.getElem?_take_of_lt (by omega), List.getElem?_eq_getElem hk]
  simp [List.getD, List.getElem?_eq_getElem hk]
 ·rw [if_neg hi]
  rcases Nat.lt_or_ge i k with h | h
  ·rw [List.getElem?_append_left (by simp; omega), List.getElem?_append_left (by simp; omega), List.getElem?_take_of_lt (by omega), List.getElem?_take_of_lt (by omega)]
  ·rw [List.getElem?_append_right (by simp; omega), List.getElem?_append_right (by simp; omega)]
   simp only [List.length_take, List.getElem?_replicate]
   rw [Nat.min_eq_left (by omega), Nat.min_eq_left (by omega)]
   by_cases h2 : i < rs.length
   ·rw [if_pos (by omega), if_pos (by omega)]
   ·rw [if_neg (by omega), if_neg (by omega)]
theorem resPad_zero (rs : List ResD) : resPad rs 0 = List.replicate rs.length ⟨0, 0, 0, 0, 0⟩ := by simp [resPad, noRes]
theorem resPad_all (rs : List ResD) : resPad rs rs.length = rs := by simp [resPad]
theorem res_set (l : List ResD) (k : Nat) (hk : k < l.length) (r : ResD) : (l.set k r).flatMap resCells = (((((l.flatMap resCells).set (k * 5) (.int .i64 r.fate)).set (k * 5 + 1) (.int .i64 r.r0)).set (k * 5 + 2) (.int .i64 r.r1)).set (k * 5 + 3) (.int .i64 r.r2)).set (k * 5 + 4) (.int .i64 r.r3) := by
 have hl : (l.flatMap resCells).length = l.length * 5 := flat_len (f := resCells) (n := 5) (fun _ => rfl) l
 apply List.ext_getElem?
 intro j
 obtain ⟨i, s, hs, rfl⟩ : ∃ i s, s < 5 ∧ j = i * 5 + s := ⟨j / 5, j % 5, by omega, by omega⟩
 rw [flat_at (n := 5) (fun _ => rfl) _ i s hs]
 by_cases hi : i = k
 ·subst hi
  rw [List.getElem?_set_self hk]
  have : s = 0 ∨ s = 1 ∨ s = 2 ∨ s = 3 ∨ s = 4 := by omega
  rcases this with rfl | rfl | rfl | rfl | rfl
  ·rw [List.getElem?_set_ne (by omega), List.getElem?_set_ne (by omega), List.getElem?_set_ne (by omega), List.getElem?_set_ne (by omega), Nat.add_zero, List.getElem?_set_self (by omega)]; rfl
  ·rw [List.getElem?_set_ne (by omega), List.getElem?_set_ne (by omega), List.getElem?_set_ne (by omega), List.getElem?_set_self (by simp only [List.length_set]; omega)]; rfl
  ·rw [List.getElem?_set_ne (by omega), List.getElem?_set_ne (by omega), List.getElem?_set_self (by simp only [List.length_set]; omega)]; rfl
  ·rw [List.getElem?_set_ne (by omega), List.getElem?_set_self (by simp only [List.length_set]; omega)]; rfl
  ·rw [List.getElem?_set_self (by simp only [List.length_set]; omega)]; rfl
 ·rw [List.getElem?_set_ne (fun q => hi q.symm), List.getElem?_set_ne (by omega), List.getElem?_set_ne (by omega), List.getElem?_set_ne (by omega), List.getElem?_set_ne (by omega), List.getElem?_set_ne (by omega), flat_at (n := 5) (fun _ => rfl) _ i s hs]
def ResIs (w : World) (l : List ResD) (e : Ending) (w' : World) : Prop :=
 ∃ (la : Option Addr) (lc : Nat), e = .returned (.slice la l.length lc) ∧ w'.ownsRow w.heap.size 84 5 (.slice la l.length lc) l.length (l.flatMap resCells) ∧ Below w.heap.size w w'
theorem row_of_blk {w : World} {base g n size : Nat} {e : TypeId} {xs : List Value} (h : Blk w g e xs.toArray) (hb : base ≤ g) (hx : xs.length = n * size) (hn : n ≤ maxLen) : w.ownsRow base e size (.slice (some ⟨g, 0, none⟩) n n) n xs :=
 ⟨hx, .inr ⟨g, n, xs.toArray, rfl, hb, h, Nat.le_refl _, hn, by simp [hx], by simp [← hx]⟩⟩
def jobsA (c : Cfg) (mem : List Int) (jobs : List (Int × List InsD)) (ps : List PickD) : List ResD := if errS c mem jobs = 0 then jobsOf c mem jobs ps else []
def JobsIs (w : World) (l : List ResD) (ER : Int) (e : Ending) (w' : World) : Prop :=
 ∃ (la : Option Addr) (lc : Nat), e = .returned (.tuple #[.slice la l.length lc, .int .i64 ER]) ∧ w'.ownsRow w.heap.size 84 5 (.slice la l.length lc) l.length (l.flatMap resCells) ∧ Below w.heap.size w w'
def JobsGood : Prop := ∀ (c : Cfg) (mem : List Int) (jobs : List (Int × List InsD)) (ps : List PickD) (ma ja pa : Option Addr) (mc jc pc : Nat) (w : World), ps.length ≤ 2 ^ 23 → mem.length ≤ maxLen → jobs.length ≤ maxLen →
  Ints w w.heap.size ma mem → JobsRep w w.heap.size ja jobs → PicksIn w w.heap.size pa ps →
  Calls Tryz.prog 17 #[.agg #[.int .i64 c.t, .int .i64 c.wd, .int .i64 c.s, .int .i64 c.g, .int .i64 c.r, .int .i64 c.cp, .int .i64 c.f, .slice ma mem.length mc, .slice ja jobs.length jc], .slice pa ps.length pc] w (JobsIs w (jobsA c mem jobs ps) (errS c mem jobs))
end Go.Proofs.YtejadojilncbjaaGreat
namespace Go.Proofs.YtejadojilncbjaaGreat
open Go.RowKit
set_option linter.unusedVariables false
attribute [local go_sem ↓] Go.wp_at_zero Go.wp_at_succ
theorem told_full {c : Cfg} {mem : List Int} {jobs : List (Int × List InsD)} (S : SetupOk c mem jobs) (ps : List PickD) (hps : ps.length ≤ 2 ^ 33) (k : Nat) (hk : k ≤ ps.length) (t : Int) (t0 : 0 ≤ t) (t1 : t < c.t) (ma ja pa la : Option Addr) (mc jc pc lc : Nat) (w : World)
  (hj : JobsRep w w.heap.size ja jobs) (hp : PicksIn w w.heap.size pa ps) (hl : LogIn w w.heap.size la (gLog c mem jobs ps k)) :
  Calls Tryz.prog 45 #[.agg #[.int .i64 c.t, .int .i64 c.wd, .int .i64 c.s, .int .i64 c.g, .int .i64 c.r, .int .i64 c.cp, .int .i64 c.f, .slice ma mem.length mc, .slice ja jobs.length jc], .slice pa ps.length pc, .slice la k lc, .int .i64 t] w fun e w' =>
   e = .returned (.pointer (some ⟨w.heap.size + 2, 0, none⟩)) ∧ (∃ H B s, LifeR (envOf c jobs t ps (gLog c mem jobs ps k)) H B (w.heap.size + 2) (w.heap.size + 1) w' s ∧ H.ea = some ⟨w.heap.size + 1, 0, none⟩ ∧ H.ec = jobs.length ∧ s.list = ((gAt c mem jobs ps k).th t).list ∧ s.ends = ((gAt c mem jobs ps k).th t).ends) ∧ Below w.heap.size w w' := by
 obtain ⟨⟨_, t2⟩, _, _, _, _, _, ⟨f1, f2⟩⟩ := cfgB_true S.cfg
 have hlen := gLog_len c mem jobs ps k
 have hseen := glog_seen S.cfg S.mw S.mb jobs ps k
 have := told_any c S.cfg t t0 (by omega) ma ja pa la mem.length mc jc pc lc jobs ps (gLog c mem jobs ps k) w hj hp hl (by omega) (by omega) (by omega) (fun a ha => by have := hseen a ha; omega) S.j8 S.cd
 rw [hlen] at this
 refine this.mono ?_
 rintro e w' ⟨rfl, ⟨H, B, hL, hH1, hH2⟩, hb⟩
 obtain ⟨_, _, h3⟩ := log_sim c (by omega) mem jobs ps k hk
 have O := told_sim (envOf c jobs t ps (gLog c mem jobs ps k)) (by show 0 ≤ c.f; omega)
 have ec : (envOf c jobs t ps (gLog c mem jobs ps k)).cx = cxOf c jobs t := rfl
 rw [ec, ← h3 t t0 t1] at O
 exact ⟨rfl, ⟨H, B, _, hL, hH1, hH2, O.list, O.ends⟩, hb⟩
theorem ends_cells {E : Env} {H : Hd} {B p eb : Nat} {w : World} {s : LS} {n : Nat} (h : LifeR E H B p eb w s) (hH : H.ea = some ⟨eb, 0, none⟩) (hc : H.ec = n) (hl : s.ends.length = n) (hn : 0 < n) :
  w.cell? ⟨p, 22, none⟩ = some (.slice (some ⟨eb, 0, none⟩) n n) ∧ Blk w eb 84 (s.ends.flatMap resCells).toArray := by
 obtain ⟨la, lc, hb, _⟩ := h.life
 rcases h.ends with h0 | ⟨_, h1⟩
 ·rw [h0] at hl; simp at hl; omega
 ·exact ⟨by rw [hb.cell]; simp [lifeArr, hH, hc, hl], h1⟩
def outAt (e : Int → Nat → ResD) (jobs : List (Int × List InsD)) (T : Int) (J : Nat) : List ResD :=
 (List.range jobs.length).map fun j => if (jobs.getD j (0, [])).1 < T ∨ ((jobs.getD j (0, [])).1 = T ∧ j < J) then e (jobs.getD j (0, [])).1 j else noRes
section
variable {e : Int → Nat → ResD} {jobs : List (Int × List InsD)}
theorem outAt_len (T : Int) (J : Nat) : (outAt e jobs T J).length = jobs.length := by simp [outAt]
theorem outAt_at {T : Int} {J j : Nat} (hj : j < jobs.length) : (outAt e jobs T J)[j]? = some (if (jobs.getD j (0, [])).1 < T ∨ ((jobs.getD j (0, [])).1 = T ∧ j < J) then e (jobs.getD j (0, [])).1 j else noRes) := by
 unfold outAt
 rw [List.getElem?_map, List.getElem?_range hj]
 rfl
theorem outAt_zero (h : ∀ j ∈ jobs, 0 ≤ j.1) : outAt e jobs 0 0 = List.replicate jobs.length ⟨0, 0, 0, 0, 0⟩ := by
 apply List.ext_getElem?
 intro j
 by_cases hj : j < jobs.length
 ·rw [outAt_at hj, List.getElem?_replicate, if_pos hj, if_neg]
  ·rfl
  ·have := h (jobs.getD j (0, [])) (by rw [show jobs.getD j (0, []) = jobs[j] from by simp [List.getD, List.getElem?_eq_getElem hj]]; exact List.getElem_mem hj)
   omega
 ·rw [List.getElem?_eq_none (by rw [outAt_len]; omega), List.getElem?_eq_none (by simp; omega)]
theorem outAt_yes {T : Int} {J : Nat} (hJ : J < jobs.length) (h : (jobs.getD J (0, [])).1 = T) : outAt e jobs T (J + 1) = (outAt e jobs T J).set J (e T J) := by
 apply List.ext_getElem?
 intro j
 by_cases hj : j < jobs.length
 ·rw [List.getElem?_set]
  by_cases hJj : J = j
  ·subst hJj
   rw [if_pos rfl, if_pos (by rw [outAt_len]; exact hJ), outAt_at hj, if_pos (Or.inr ⟨h, by omega⟩), h]
  ·rw [if_neg hJj, outAt_at hj, outAt_at hj]
   congr 1
   by_cases hc : (jobs.getD j (0, [])).1 < T ∨ ((jobs.getD j (0, [])).1 = T ∧ j < J)
   ·rw [if_pos hc, if_pos (by omega)]
   ·rw [if_neg hc, if_neg (by omega)]
 ·rw [List.getElem?_eq_none (by rw [outAt_len]; omega), List.getElem?_eq_none (by rw [List.length_set, outAt_len]; omega)]
theorem outAt_no {T : Int} {J : Nat} (h : (jobs.getD J (0, [])).1 ≠ T) : outAt e jobs T (J + 1) = outAt e jobs T J := by
 apply List.ext_getElem?
 intro j
 by_cases hj : j < jobs.length
 ·rw [outAt_at hj, outAt_at hj]
  congr 1
  by_cases hJj : J = j
  ·subst hJj
   by_cases hc : (jobs.getD J (0, [])).1 < T
   ·rw [if_pos (Or.inl hc), if_pos (Or.inl hc)]
   ·rw [if_neg (by omega), if_neg (by omega)]
  ·by_cases hc : (jobs.getD j (0, [])).1 < T ∨ ((jobs.getD j (0, [])).1 = T ∧ j < J)
   ·rw [if_pos hc, if_pos (by omega)]
   ·rw [if_neg hc, if_neg (by omega)]
 ·rw [List.getElem?_eq_none (by rw [outAt_len]; omega), List.getElem?_eq_none (by rw [outAt_len]; omega)]
theorem outAt_thread (T : Int) : outAt e jobs (T + 1) 0 = outAt e jobs T jobs.length := by
 apply List.ext_getElem?
 intro j
 by_cases hj : j < jobs.length
 ·rw [outAt_at hj, outAt_at hj]
  congr 1
  by_cases hc : (jobs.getD j (0, [])).1 < T + 1
  ·rw [if_pos (Or.inl hc), if_pos (by omega)]
  ·rw [if_neg (by omega), if_neg (by omega)]
 ·rw [List.getElem?_eq_none (by rw [outAt_len]; omega), List.getElem?_eq_none (by rw [outAt_len]; omega)]
theorem outAt_all {T : Int} (h : ∀ j ∈ jobs, j.1 < T) : outAt e jobs T 0 = (List.range jobs.length).map fun j => e (jobs.getD j (0, [])).1 j := by
 apply List.ext_getElem?
 intro j
 by_cases hj : j < jobs.length
 ·rw [outAt_at hj, List.getElem?_map, List.getElem?_range hj, if_pos]
  ·rfl
  ·exact Or.inl (h (jobs.getD j (0, [])) (by rw [show jobs.getD j (0, []) = jobs[j] from by simp [List.getD, List.getElem?_eq_getElem hj]]; exact List.getElem_mem hj))
 ·rw [List.getElem?_eq_none (by rw [outAt_len]; omega), List.getElem?_eq_none (by simp; omega)]
end
theorem pComp_begun (m : MS) (i : InsD) : (pComp m i).begun = m.begun := by
 unfold pComp
 split
 ·rfl
 ·split
  ·rfl
  ·split
   ·rfl
   ·split
    ·rfl
    ·split <;> rfl
end Go.Proofs.YtejadojilncbjaaGreat
