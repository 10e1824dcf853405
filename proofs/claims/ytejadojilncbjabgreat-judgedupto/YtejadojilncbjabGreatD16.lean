import Derived.Test.YtejadojilncbjabGreatD15
import Derived.Test.YtejadojilncbjabGreatD01
namespace Go.Proofs.YtejadojilncbjabGreat
set_option linter.unusedVariables false
structure PT where
 c : Cfg
 num : Int
 mine : List Int
 cur : Nat
 res : List ResD
 rank : Int
 fails : Int
 rest : Int
 step : Int
 order : AskD
 aTh : Int
 aJob : Int
 aStart : Int
 aEnd : Int
 valid : Int
 aStamp : Int
 aFate : Int
 notes : List NoteD
 m : MS
 turn : TurnD
 reads : List EntD
 writes : List EntD
 held : List Int
 version : Int
 value : Int
 rival : Int
 wayTo : Int
 clock : Int
 at_ : Nat
def PT.told (t : PT) : AttD := ⟨t.aTh, t.aJob, t.aStart, t.aEnd, t.valid, t.aStamp, t.aFate, t.notes⟩
def cOwnOf (c : Cfg) (s : Int) : Int := 3 + c.s + s
def cStaOf (c : Cfg) (t : Int) : Int := 3 + 2 * c.s + t
def cWrdOf (c : Cfg) (a : Int) : Int := 3 + 2 * c.s + c.t + a
def yLoad (step cell : Int) (t : PT) : PT := { t with step := step, order := ⟨1, cell, 0, 0⟩ }
def yStore (step cell put : Int) (t : PT) : PT := { t with step := step, order := ⟨2, cell, 0, put⟩ }
def ySwap (step cell frm put : Int) (t : PT) : PT := { t with step := step, order := ⟨3, cell, frm, put⟩ }
def yTake (step cell : Int) (t : PT) : PT := { t with step := step, order := ⟨4, cell, 0, 0⟩ }
def PT.sta (t : PT) : Int := cStaOf t.c t.num
def PT.staOf (t : PT) (name : Int) : Int := cStaOf t.c (name - 1)
def PT.stripe (t : PT) : Int := t.turn.addr.tmod t.c.s
def PT.holds (t : PT) (s : Int) : Bool := t.held.any fun h => h == s
def yBegin (t : PT) : PT := if t.cur < t.mine.length then yLoad 2 0 t else { t with step := 0 }
def yEnd (t : PT) : PT := yStore 27 t.sta 0 t
def yRes (t : PT) : ResD := ⟨t.turn.fate, t.m.regs.getD 0 0, t.m.regs.getD 1 0, t.m.regs.getD 2 0, t.m.regs.getD 3 0⟩
def yConc (fate num : Int) (t : PT) : PT := { t with aFate := fate, aEnd := num }
def yNextJob (num : Int) (t : PT) : PT := yBegin { t with aFate := t.turn.fate, aEnd := num, res := t.res ++ [yRes t], cur := t.cur + 1, rank := 0, fails := 0 }
def yGiveBack (step : Int) (t : PT) : PT := yStore step (cOwnOf t.c (t.held.getD t.at_ 0)) 0 t
def yLetGo (t : PT) : PT := if t.at_ < t.held.length then yGiveBack 26 t else yEnd t
def yFinish (t : PT) : PT := if t.held.length = 0 then yEnd t else yLoad 16 t.sta t
def yShow (t : PT) : PT := yStore 31 t.sta (8 * t.rank) t
def yCount (t : PT) : PT := if t.rank = 0 ∧ t.c.r < t.fails + 1 then yTake 30 1 { t with fails := t.fails + 1 } else yShow { t with fails := t.fails + 1 }
def yUndo (t : PT) : PT := if t.at_ < t.held.length then yGiveBack 29 t else yCount t
def yFail (t : PT) : PT := yUndo { t with at_ := 0 }
def yFailGate (t : PT) : PT := yStore 28 2 0 t
def yFollowFail (put : Int) (t : PT) : PT :=
 if t.step = 28 then yFail t else if t.step = 29 then yUndo { t with at_ := t.at_ + 1 } else if t.step = 30 then yShow { t with rank := put } else t
def yRestBy (t : PT) (draw : Int) : Int := if draw < 0 then 0 else draw.tmod (1 + if t.c.cp < t.fails then t.c.cp else t.fails)
def yWinner (t : PT) (status : Int) : Int := if status.tmod 8 = 0 then t.wayTo else status.tmod 8
def yLose (status draw : Int) (t : PT) : PT := if yWinner t status ≠ 0 then yLoad 32 (t.staOf (yWinner t status)) t else yBegin { t with rest := yRestBy t draw }
def yAwait (status : Int) (t : PT) : PT := if status.tdiv 8 = 0 ∨ (0 < t.rank ∧ t.rank < status.tdiv 8) then yBegin t else t
def yLook (st v : Int) (t : PT) : PT := if (entIdx t.reads st).isSome then t else { t with reads := t.reads ++ [⟨st, v⟩] }
def yLog (a v : Int) (t : PT) : PT := { t with notes := t.notes ++ [⟨t.turn.op, a, v⟩], writes := putEnt t.writes a v }
def yGive (v : Int) (t : PT) : PT := { t with m := { t.m with regs := t.m.regs.set t.m.into.toNat v }, notes := t.notes ++ [⟨t.turn.op, t.turn.addr, v⟩], step := 1 }
def yGet (t : PT) : PT := yLoad 7 t.sta t
def yMeet (rival : Int) (t : PT) : PT := if t.rank = 0 then yFail t else yLoad 9 (t.staOf rival) { t with rival := rival }
def yWeigh (status : Int) (t : PT) : PT :=
 if 0 < status.tdiv 8 ∧ status.tdiv 8 < t.rank then yFail { t with wayTo := t.rival } else if status.tmod 8 ≠ 0 then yGet t else ySwap 10 (t.staOf t.rival) status (status + (t.num + 1)) t
def yWriteGot (t : PT) : PT := if t.rank = 0 ∧ 0 < t.c.g ∧ (t.held.length : Int) = t.c.g then yTake 14 1 (yLog t.turn.addr t.turn.val t) else { yLog t.turn.addr t.turn.val t with step := 1 }
def yFollowTicket (seen put : Int) (t : PT) : PT :=
 if t.step = 14 then ySwap 15 t.sta 0 (8 * put) { t with rank := put } else if t.step = 15 then (if seen ≠ 0 then yFail t else { t with step := 1 }) else t
def yExtend (t : PT) : PT := yLoad 12 0 t
def yEndExt (t : PT) : PT := if t.turn.op = 7 then yGive t.value t else yWriteGot t
def yExtNext (t : PT) : PT := if t.at_ < t.reads.length then yLoad 13 (hVer (t.reads.getD t.at_ ⟨0, 0⟩).what) t else yEndExt { t with valid := t.clock }
def yFollowExt (seen : Int) (t : PT) : PT :=
 if t.step = 12 then yExtNext { t with clock := seen, at_ := 0 } else if t.step = 13 then (if seen ≠ (t.reads.getD t.at_ ⟨0, 0⟩).val then yFail t else yExtNext { t with at_ := t.at_ + 1 }) else yExtNext t
def yFollowGet (seen : Int) (t : PT) : PT :=
 if t.step = 7 then (if seen.tmod 8 ≠ 0 then yFail t else ySwap 8 (cOwnOf t.c t.stripe) 0 (t.num + 1) t)
 else if t.step = 8 then (if seen ≠ 0 then yMeet seen t else yLoad 11 (hVer t.stripe) { t with held := t.held ++ [t.stripe] })
 else if t.step = 9 then yWeigh seen t
 else if t.step = 10 then yGet t
 else if t.step = 11 then (if t.valid < seen then yExtend t else yWriteGot t)
 else t
def yRead (t : PT) : PT := match entIdx t.writes t.turn.addr with
 | some k => yGive (t.writes.getD k ⟨0, 0⟩).val t
 | none => if t.holds t.stripe then yLoad 3 (cWrdOf t.c t.turn.addr) t else yLoad 4 (hVer t.stripe) t
def yTrust (version : Int) (t : PT) : PT :=
 if version ≠ t.version then yLoad 4 (hVer t.stripe) t
 else if t.valid < version then yExtend (yLook t.stripe version t) else yGive t.value (yLook t.stripe version t)
def yFollowRead (seen : Int) (t : PT) : PT :=
 if t.step = 3 then yGive seen t
 else if t.step = 4 then (if seen ≠ -1 then yLoad 5 (cWrdOf t.c t.turn.addr) { t with version := seen } else t)
 else if t.step = 5 then yLoad 6 (hVer t.stripe) { t with value := seen }
 else if t.step = 6 then yTrust seen t
 else t
def yWrite (t : PT) : PT := if t.holds t.stripe then { yLog t.turn.addr t.turn.val t with step := 1 } else yGet t
def yTouch (t : PT) : PT := if t.turn.op = 7 then yRead t else yWrite t
def yTurned (u : TurnD × MS) (t : PT) : PT :=
 if u.1.fate = 0 then yTouch { t with m := u.2, turn := u.1 } else if u.1.fate = 1 then yFinish { t with m := u.2, turn := u.1 } else yLetGo { t with m := u.2, turn := u.1, at_ := 0 }
def yRounds : Nat := 50
def yTurn (code : List InsD) (t : PT) : PT := yTurned (pNext t.c.f t.c.wd code yRounds t.m) t
def yTurns (code : List InsD) : Nat → PT → PT
 | 0, t => t
 | n + 1, t => if t.step = 1 then yTurns code n (yTurn code t) else t
def yShut (t : PT) : PT := if t.at_ < t.held.length then yStore 20 (hVer (t.held.getD t.at_ 0)) (-1) t else yStore 21 0 (t.clock + 1) t
def yRelease (t : PT) : PT := if t.at_ < t.held.length then yStore 24 (hVer (t.held.getD t.at_ 0)) (t.clock + 1) t else yEnd t
def yPut (t : PT) : PT := if t.at_ < t.writes.length then yStore 23 (cWrdOf t.c (t.writes.getD t.at_ ⟨0, 0⟩).what) (t.writes.getD t.at_ ⟨0, 0⟩).val t else yRelease { t with at_ := 0 }
def yCheckN : Nat → PT → PT
 | 0, t => yShut { t with at_ := 0 }
 | n + 1, t => if t.clock ≠ t.valid then (if t.holds (t.reads.getD t.at_ ⟨0, 0⟩).what then yCheckN n { t with at_ := t.at_ + 1 } else yLoad 19 (hVer (t.reads.getD t.at_ ⟨0, 0⟩).what) t) else yShut { t with at_ := 0 }
def yCheck (t : PT) : PT := yCheckN (t.reads.length - t.at_) t
def yFollowCommit (seen : Int) (t : PT) : PT :=
 if t.step = 16 then (if seen.tmod 8 ≠ 0 then yFail t else ySwap 17 2 0 (t.num + 1) t)
 else if t.step = 17 then (if seen = 0 then yLoad 18 0 t else t)
 else if t.step = 18 then yCheck { t with clock := seen, at_ := 0 }
 else if t.step = 19 then (if seen ≠ (t.reads.getD t.at_ ⟨0, 0⟩).val then yFailGate t else yCheck { t with at_ := t.at_ + 1 })
 else t
def yFollowStore (t : PT) : PT :=
 if t.step = 20 then yShut { t with at_ := t.at_ + 1 }
 else if t.step = 21 then yStore 22 2 0 { t with aStamp := t.clock + 1 }
 else if t.step = 22 then yPut { t with at_ := 0 }
 else if t.step = 23 then yPut { t with at_ := t.at_ + 1 }
 else if t.step = 24 then yStore 25 (cOwnOf t.c (t.held.getD t.at_ 0)) 0 t
 else if t.step = 25 then yRelease { t with at_ := t.at_ + 1 }
 else t
def yNew (t : PT) (seen num : Int) : PT := { t with aTh := t.num, aJob := t.mine.getD t.cur 0, aStart := num, aEnd := 0, aStamp := 0, aFate := 0, notes := [], m := ⟨[0, 0, 0, 0], 0, 0, 0⟩, turn := ⟨0, 0, 0, 0⟩, valid := seen, reads := [], writes := [], held := [], version := 0, value := 0, rival := 0, wayTo := 0, clock := 0, at_ := 0, step := 1 }
def yFollow (seen put num draw : Int) (t : PT) : PT :=
 if t.step = 2 then yNew t seen num
 else if 3 ≤ t.step ∧ t.step ≤ 6 then yFollowRead seen t
 else if 7 ≤ t.step ∧ t.step ≤ 11 then yFollowGet seen t
 else if 12 ≤ t.step ∧ t.step ≤ 13 then yFollowExt seen t
 else if 14 ≤ t.step ∧ t.step ≤ 15 then yFollowTicket seen put t
 else if 16 ≤ t.step ∧ t.step ≤ 19 then yFollowCommit seen t
 else if 20 ≤ t.step ∧ t.step ≤ 25 then yFollowStore t
 else if t.step = 26 then yLetGo { t with at_ := t.at_ + 1 }
 else if t.step = 27 then yNextJob num t
 else if 28 ≤ t.step ∧ t.step ≤ 30 then yFollowFail put t
 else if t.step = 31 then yLose seen draw (yConc 5 num t)
 else if t.step = 32 then yAwait seen t
 else t
end Go.Proofs.YtejadojilncbjabGreat
