import Derived.Test.YtejadojilncbjabGreatK08
import Derived.Test.YtejadojilncbjabGreatK01
import Derived.Test.YtejadojilncbjabGreatK40
import Derived.Test.YtejadojilncbjabGreatK27
namespace Go.Proofs.YtejadojilncbjabGreat
open Go.RowKit
set_option linter.unusedVariables false
attribute [local go_sem ↓] Go.wp_at_zero Go.wp_at_succ
def KResIs (C : Prop) (w : World) (e : Ending) (w' : World) : Prop := ∃ b : Bool, e = .returned (.bool b) ∧ (C → b = true) ∧ Below w.heap.size w w'
set_option maxHeartbeats 2000000 in
theorem keepRes_any (f r0 r1 r2 r3 g s0 s1 s2 s3 : Int) (w : World) :
  Calls Tryz.prog 38 #[.agg #[.int .i64 f, .int .i64 r0, .int .i64 r1, .int .i64 r2, .int .i64 r3], .agg #[.int .i64 g, .int .i64 s0, .int .i64 s1, .int .i64 s2, .int .i64 s3]] w (KResIs (f = g ∧ r0 = s0 ∧ r1 = s1 ∧ r2 = s2 ∧ r3 = s3) w) := by
 go_enter Tryz.func38, Tryz.ntmps38
 go_wp2
 obtain ⟨w0, hw0⟩ : ∃ w0, w0 = (w.alloc (.cells #[.int .i64 f, .int .i64 r0, .int .i64 r1, .int .i64 r2, .int .i64 r3] 47)).alloc (.cells #[.int .i64 g, .int .i64 s0, .int .i64 s1, .int .i64 s2, .int .i64 s3] 47) := ⟨_, rfl⟩
 have HA : Hid (Blk w0 w.heap.size 47 #[.int .i64 f, .int .i64 r0, .int .i64 r1, .int .i64 r2, .int .i64 r3]) := by rw [hw0]; exact (Blk.new w 47 _).alloc _
 have HB : Hid (Blk w0 (w.heap.size + 1) 47 #[.int .i64 g, .int .i64 s0, .int .i64 s1, .int .i64 s2, .int .i64 s3]) := by
  rw [hw0]
  have := Blk.new (w.alloc (.cells #[.int .i64 f, .int .i64 r0, .int .i64 r1, .int .i64 r2, .int .i64 r3] 47)) 47 #[.int .i64 g, .int .i64 s0, .int .i64 s1, .int .i64 s2, .int .i64 s3]
  exact (by simpa using this : Blk _ _ _ _)
 have HBw : Hid (Below w.heap.size w w0) := by rw [hw0]; exact ((Below.refl w.heap.size w).alloc (Nat.le_refl _) _).alloc (by simp) _
 have hsz : w0.heap.size = w.heap.size + 2 := by rw [hw0]; simp
 rw [← hw0]
 clear hw0
 go_loopg [5] 5 (fun m t wr => ∃ k : Nat, t = .int .i64 (k : Int) ∧ k ≤ 4 ∧ m = 5 - k ∧ Hid (Below w0.heap.size w0 wr))
 case atStart => exact ⟨0, rfl, by omega, by omega, Below.refl _ _⟩
 case round =>
  obtain ⟨k, rfl, hk, hgk, HBk⟩ := hrel
  have hcA := ((HA.out).below HBk.out (by omega)).cell
  have hcB := ((HB.out).below HBk.out (by omega)).cell
  have hk4 : k = 0 ∨ k = 1 ∨ k = 2 ∨ k = 3 ∨ k = 4 := by omega
  rcases hk4 with rfl | rfl | rfl | rfl | rfl
  ·by_cases h : r0 = s0
   ·have hbn : (r0 != s0) = false := by simp [h]
    go_wp2
    go_quiet (fail)
    go_wp2
    go_roundg (gk - 1)
    case rel => exact ⟨1, by first | rfl | simp, by omega, by omega, belowDrewN HBk.out nq⟩
    case measure => omega
   ·have hbn : (r0 != s0) = true := by simp [h]
    go_wp2
    go_quiet (fail)
    go_wp2
    go_ret
    exact ⟨false, rfl, fun q => absurd q.2.1 h, (HBw.out).trans ((belowDrewN HBk.out nq).mono (by omega))⟩
  ·by_cases h : r1 = s1
   ·have hbn : (r1 != s1) = false := by simp [h]
    go_wp2
    go_quiet (fail)
    go_wp2
    go_roundg (gk - 1)
    case rel => exact ⟨2, by first | rfl | simp, by omega, by omega, belowDrewN HBk.out nq⟩
    case measure => omega
   ·have hbn : (r1 != s1) = true := by simp [h]
    go_wp2
    go_quiet (fail)
    go_wp2
    go_ret
    exact ⟨false, rfl, fun q => absurd q.2.2.1 h, (HBw.out).trans ((belowDrewN HBk.out nq).mono (by omega))⟩
  ·by_cases h : r2 = s2
   ·have hbn : (r2 != s2) = false := by simp [h]
    go_wp2
    go_quiet (fail)
    go_wp2
    go_roundg (gk - 1)
    case rel => exact ⟨3, by first | rfl | simp, by omega, by omega, belowDrewN HBk.out nq⟩
    case measure => omega
   ·have hbn : (r2 != s2) = true := by simp [h]
    go_wp2
    go_quiet (fail)
    go_wp2
    go_ret
    exact ⟨false, rfl, fun q => absurd q.2.2.2.1 h, (HBw.out).trans ((belowDrewN HBk.out nq).mono (by omega))⟩
  ·by_cases h : r3 = s3
   ·have hbn : (r3 != s3) = false := by simp [h]
    go_wp2
    go_quiet (fail)
    go_wp2
    go_roundg (gk - 1)
    case rel => exact ⟨4, by first | rfl | simp, by omega, by omega, belowDrewN HBk.out nq⟩
    case measure => omega
   ·have hbn : (r3 != s3) = true := by simp [h]
    go_wp2
    go_quiet (fail)
    go_wp2
    go_ret
    exact ⟨false, rfl, fun q => absurd q.2.2.2.2 h, (HBw.out).trans ((belowDrewN HBk.out nq).mono (by omega))⟩
  ·go_wp2
   go_ret
   exact ⟨f == g, rfl, fun q => by simp [q.1], (HBw.out).trans ((HBk.out).mono (by omega))⟩
end Go.Proofs.YtejadojilncbjabGreat
namespace Go.Proofs.YtejadojilncbjabGreat
set_option linter.unusedVariables false
structure SimA (x y : TS) : Prop where
 code : x.code = y.code
 regs : x.regs = y.regs
 place : x.place = y.place
 begun : x.begun = y.begun
 writes : x.writes = y.writes
def GoesA (c : Cfg) (W : Int → Int) (code : List InsD) (x : TS) : Prop := ∃ (N : Nat) (r : Int) (y : TS), (iRun c W code).1 = (iSteps c W N r y).1 ∧ (iRun c W code).2.2.1 = (iSteps c W N r y).2.2.1 ∧ SimA x y ∧ c.f < y.begun + N ∧ (y.begun : Int) ≤ c.f
structure FiniA (c : Cfg) (W : Int → Int) (code : List InsD) (e : Int) (x : TS) : Prop where
 fate : (iRun c W code).1 = e
 regs : (iRun c W code).2.2.1.regs = x.regs
 writes : (iRun c W code).2.2.1.writes = x.writes
theorem goes_new {c : Cfg} (hf : 0 ≤ c.f) (W : Int → Int) (code : List InsD) (v : Int) : GoesA c W code (newTS code v) :=
 ⟨c.f.toNat + 2, 0, newTS code 0, rfl, rfl, ⟨rfl, rfl, rfl, rfl, rfl⟩, by show c.f < ((0 : Nat) : Int) + ((c.f.toNat + 2 : Nat) : Int); omega, by show ((0 : Nat) : Int) ≤ _; omega⟩
theorem goes_fin {c : Cfg} {W : Int → Int} {code : List InsD} {x : TS} {e : Int} (he : e ≠ 0) (G : GoesA c W code x) (h : ∀ r y, SimA x y → (iStep c W r y).1 = e ∧ (iStep c W r y).2.2.1.regs = y.regs ∧ (iStep c W r y).2.2.1.writes = y.writes) : FiniA c W code e x := by
 obtain ⟨N, r, y, g1, g2, S, g3, g4⟩ := G
 obtain ⟨h1, h2, h3⟩ := h r y S
 cases N with
 | zero => omega
 | succ n =>
  rw [iSteps_one c W n r y (by rw [h1]; exact he)] at g1 g2
  exact ⟨g1.trans h1, by rw [g2, h2, S.regs], by rw [g2, h3, S.writes]⟩
theorem goes_next {c : Cfg} {W : Int → Int} {code : List InsD} {x x' : TS} (G : GoesA c W code x) (hb : x'.begun = x.begun + 1) (hf : (x'.begun : Int) ≤ c.f) (h : ∀ r y, SimA x y → (iStep c W r y).1 = 0 ∧ SimA x' (iStep c W r y).2.2.1) : GoesA c W code x' := by
 obtain ⟨N, r, y, g1, g2, S, g3, g4⟩ := G
 obtain ⟨h1, h2⟩ := h r y S
 cases N with
 | zero => omega
 | succ n =>
  obtain ⟨e1, e2⟩ := iSteps_zero c W n r y h1
  have b := h2.begun
  have b2 := S.begun
  exact ⟨n, (iStep c W r y).2.1, (iStep c W r y).2.2.1, g1.trans e1, g2.trans e2, h2, by omega, by omega⟩
theorem GoesA.of {c : Cfg} {W : Int → Int} {code : List InsD} {x x' : TS} (G : GoesA c W code x) (S : SimA x' x) : GoesA c W code x' := by
 obtain ⟨N, r, y, g1, g2, T, g3⟩ := G
 exact ⟨N, r, y, g1, g2, ⟨S.code.trans T.code, S.regs.trans T.regs, S.place.trans T.place, S.begun.trans T.begun, S.writes.trans T.writes⟩, g3⟩
theorem FiniA.of {c : Cfg} {W : Int → Int} {code : List InsD} {e : Int} {x x' : TS} (F : FiniA c W code e x) (h1 : x'.regs = x.regs) (h2 : x'.writes = x.writes) : FiniA c W code e x' := ⟨F.fate, by rw [h1]; exact F.regs, by rw [h2]; exact F.writes⟩
structure MidA (c : Cfg) (W : Int → Int) (code : List InsD) (i : InsD) (x : TS) : Prop where
 ex : ∃ x0, GoesA c W code x0 ∧ x0.place ≠ x0.code.length ∧ (x0.begun : Int) ≠ c.f ∧ formedB (insAt x0.code x0.place) x0.code.length = true ∧ insAt x0.code x0.place = i ∧ SimA x { x0 with begun := x0.begun + 1, place := x0.place + 1 }
theorem MidA.of {c : Cfg} {W : Int → Int} {code : List InsD} {i : InsD} {x x' : TS} (M : MidA c W code i x) (S : SimA x' x) : MidA c W code i x' := by
 obtain ⟨x0, a, b, d, e, f, T⟩ := M.ex
 exact ⟨x0, a, b, d, e, f, ⟨S.code.trans T.code, S.regs.trans T.regs, S.place.trans T.place, S.begun.trans T.begun, S.writes.trans T.writes⟩⟩
def notW (i : InsD) : Prop := i.op ≠ 0 ∧ i.op ≠ 1 ∧ i.op ≠ 2 ∧ i.op ≠ 3 ∧ i.op ≠ 4 ∧ i.op ≠ 5 ∧ i.op ≠ 6
theorem istep_rw {c : Cfg} {W : Int → Int} {x0 y : TS} {i : InsD} {r : Int} (S : SimA x0 y) (h1 : x0.place ≠ x0.code.length) (h2 : (x0.begun : Int) ≠ c.f) (h3 : formedB (insAt x0.code x0.place) x0.code.length = true) (hi : insAt x0.code x0.place = i) (hn : notW i) :
  iStep c W r y = if i.op = 7 then iRead c W r { y with begun := y.begun + 1, place := y.place + 1 } i else iWrite c r { y with begun := y.begun + 1, place := y.place + 1 } i := by
 have e1 : y.place ≠ y.code.length := by rw [← S.place, ← S.code]; exact h1
 have e2 : (y.begun : Int) ≠ c.f := by rw [← S.begun]; exact h2
 have e3 : formedB (insAt y.code y.place) y.code.length = true := by rw [← S.place, ← S.code]; exact h3
 have e4 : i = insAt y.code y.place := by rw [← S.place, ← S.code]; exact hi.symm
 rw [iStep_eq c W r y e1 e2 e3 _ rfl i e4]
 obtain ⟨a, b, d, e, f, g, k⟩ := hn
 rw [if_neg a, if_neg b, if_neg d, if_neg e, if_neg f, if_neg g, if_neg k]
theorem xRead_sim (c : Cfg) (x : TS) (a : Int) : (xRead c x a).code = x.code ∧ (xRead c x a).regs = x.regs ∧ (xRead c x a).place = x.place ∧ (xRead c x a).begun = x.begun ∧ (xRead c x a).writes = x.writes := by
 unfold xRead
 split
 ·exact ⟨rfl, rfl, rfl, rfl, rfl⟩
 ·split
  ·exact ⟨rfl, rfl, rfl, rfl, rfl⟩
  ·split
   ·exact ⟨rfl, rfl, rfl, rfl, rfl⟩
   ·exact ⟨rfl, rfl, rfl, rfl, rfl⟩
theorem vRead_over (W : Int → Int) (x : TS) (a : Int) : vRead W x a = overW x.writes W a := by
 unfold vRead
 cases h : entIdx x.writes a with
 | some k => exact (overW_some W a _ k h).symm
 | none => exact (overW_none W a _ h).symm
theorem mid_read {c : Cfg} {W : Int → Int} {code : List InsD} {i : InsD} {x : TS} {v : Int} (M : MidA c W code i x) (hn : notW i) (h7 : i.op = 7) (hw : ¬ c.wd ≤ regOf x i.b) (hf : (x.begun : Int) ≤ c.f) (hv : vRead W x (regOf x i.b) = v) : GoesA c W code (setReg x i.a v) := by
 obtain ⟨x0, G, b1, b2, b3, b4, T⟩ := M.ex
 refine goes_next G (show x.begun = x0.begun + 1 from T.begun) hf (fun r y S => ?_)
 rw [istep_rw S b1 b2 b3 b4 hn, if_pos h7]
 have er : regOf { y with begun := y.begun + 1, place := y.place + 1 } i.b = regOf x i.b := by
  unfold regOf
  show y.regs.getD _ 0 = x.regs.getD _ 0
  rw [T.regs, ← S.regs]
 have ew : x.writes = y.writes := T.writes.trans S.writes
 unfold iRead
 rw [er, if_neg hw]
 have ev : vRead W { y with begun := y.begun + 1, place := y.place + 1 } (regOf x i.b) = v := by
  rw [← hv, vRead_over, vRead_over, ew]
 rw [ev]
 obtain ⟨q1, q2, q3, q4, q5⟩ := xRead_sim c { y with begun := y.begun + 1, place := y.place + 1 } (regOf x i.b)
 refine ⟨rfl, ?_, ?_, ?_, ?_, ?_⟩
 ·show x.code = (xRead c _ _).code
  rw [q1]; exact T.code.trans S.code
 ·show x.regs.set _ _ = (xRead c _ _).regs.set _ _
  rw [q2]
  show _ = y.regs.set _ _
  rw [T.regs, S.regs]
 ·show x.place = (xRead c _ _).place
  rw [q3, T.place]
  show x0.place + 1 = y.place + 1
  rw [S.place]
 ·show x.begun = (xRead c _ _).begun
  rw [q4, T.begun]
  show x0.begun + 1 = y.begun + 1
  rw [S.begun]
 ·show x.writes = (xRead c _ _).writes
  rw [q5]; exact ew
theorem mid_write {c : Cfg} {W : Int → Int} {code : List InsD} {i : InsD} {x : TS} (M : MidA c W code i x) (hn : notW i) (h7 : i.op ≠ 7) (hw : ¬ c.wd ≤ regOf x i.a) (hf : (x.begun : Int) ≤ c.f) : GoesA c W code { x with writes := putEnt x.writes (regOf x i.a) (regOf x i.b) } := by
 obtain ⟨x0, G, b1, b2, b3, b4, T⟩ := M.ex
 refine goes_next G (show x.begun = x0.begun + 1 from T.begun) hf (fun r y S => ?_)
 rw [istep_rw S b1 b2 b3 b4 hn, if_neg h7]
 have er : ∀ q, regOf { y with begun := y.begun + 1, place := y.place + 1 } q = regOf x q := fun q => by
  unfold regOf
  show y.regs.getD _ 0 = x.regs.getD _ 0
  rw [T.regs, ← S.regs]
 have ew : x.writes = y.writes := T.writes.trans S.writes
 obtain ⟨p1, p2, p3, p4, p5, p6⟩ := iWrite_x c r { y with begun := y.begun + 1, place := y.place + 1 } i (by rw [er]; exact hw)
 refine ⟨p1, ?_, ?_, ?_, ?_, ?_⟩
 ·rw [p3]; exact T.code.trans S.code
 ·rw [p2]; exact T.regs.trans S.regs
 ·rw [p4]
  show x.place = y.place + 1
  rw [T.place]
  show x0.place + 1 = _
  rw [S.place]
 ·rw [p5]
  show x.begun = y.begun + 1
  rw [T.begun]
  show x0.begun + 1 = _
  rw [S.begun]
 ·rw [p6, er, er]
  show putEnt x.writes _ _ = putEnt y.writes _ _
  rw [ew]
theorem mid_bad {c : Cfg} {W : Int → Int} {code : List InsD} {i : InsD} {x : TS} (M : MidA c W code i x) (hn : notW i) (hw : (i.op = 7 ∧ c.wd ≤ regOf x i.b) ∨ (i.op ≠ 7 ∧ c.wd ≤ regOf x i.a)) : FiniA c W code 3 x := by
 obtain ⟨x0, G, b1, b2, b3, b4, T⟩ := M.ex
 have F : FiniA c W code 3 x0 := by
  refine goes_fin (by omega) G (fun r y S => ?_)
  rw [istep_rw S b1 b2 b3 b4 hn]
  have er : ∀ q, regOf { y with begun := y.begun + 1, place := y.place + 1 } q = regOf x q := fun q => by
   unfold regOf
   show y.regs.getD _ 0 = x.regs.getD _ 0
   rw [T.regs, ← S.regs]
  rcases hw with ⟨h1, h2⟩ | ⟨h1, h2⟩
  ·rw [if_pos h1]
   unfold iRead
   rw [er, if_pos h2]
   exact ⟨rfl, rfl, rfl⟩
  ·rw [if_neg h1]
   unfold iWrite
   rw [er, if_pos h2]
   exact ⟨rfl, rfl, rfl⟩
 exact F.of T.regs T.writes
def codeOf (K : Cx) (h : Th) : List InsD := (K.jobs.getD h.job (0, [])).2
def nts (h : Th) : List NoteD := (cur h.list).notes
def QQ (K : Cx) (h : Th) : Prop := ∀ W, fOk (nts h) W → GoesA K.c W (codeOf K h) h.x
def RdQ (K : Cx) (h : Th) (i : InsD) (a : Int) : Prop := (notW i ∧ i.op = 7 ∧ a = regOf h.x i.b ∧ ¬ K.c.wd ≤ a) ∧ ∀ W, fOk (nts h) W → MidA K.c W (codeOf K h) i h.x
def WrQ (K : Cx) (h : Th) (i : InsD) (a : Int) : Prop := (notW i ∧ i.op ≠ 7 ∧ a = regOf h.x i.a ∧ ¬ K.c.wd ≤ a) ∧ ∀ W, fOk (nts h) W → MidA K.c W (codeOf K h) i h.x
def OvX (h : Th) : Prop := h.list ≠ [] ∧ ∀ f a, overN (nts h) f a = overW h.x.writes f a
def EndQ (K : Cx) (h : Th) (e : Int) : Prop := OvX h ∧ ∀ W, fOk (nts h) W → FiniA K.c W (codeOf K h) e h.x
def Sp (h : Th) : Prop := (cur h.list).stamp ≠ 0
def ExQ (K : Cx) (h : Th) : Ex → Prop
 | .rd i a _ => RdQ K h i a
 | .wr i a => WrQ K h i a
def SQ (K : Cx) (h : Th) : Prop := match h.st with
 | .rHeld i a => RdQ K h i a
 | .rVer i a => RdQ K h i a
 | .rWord i a _ => RdQ K h i a
 | .rAgain i a _ _ => RdQ K h i a
 | .xClock x => ExQ K h x
 | .xVer x _ _ => ExQ K h x
 | .gStat i a => WrQ K h i a
 | .gOwn i a => WrQ K h i a
 | .gTheir i a _ => WrQ K h i a
 | .gMark i a _ _ => WrQ K h i a
 | .gVer i a => WrQ K h i a
 | .tTake => QQ K h
 | .tShow => QQ K h
 | .cStat => EndQ K h 1
 | .cGate => EndQ K h 1
 | .cClock => EndQ K h 1
 | .cVer _ _ => EndQ K h 1
 | .cShut _ _ => EndQ K h 1
 | .cStamp _ => EndQ K h 1
 | .cLeave _ => EndQ K h 1 ∧ Sp h
 | .cWord _ _ => EndQ K h 1 ∧ Sp h
 | .cOpen _ _ => EndQ K h 1 ∧ Sp h
 | .cOwn _ _ => EndQ K h 1 ∧ Sp h
 | .free e _ => EndQ K h e ∧ e ≠ 1
 | .fin e => EndQ K h e ∧ (e = 1 → h.x.writes = [] ∨ Sp h)
 | _ => True
theorem nts_noted {h : Th} (hl : h.list ≠ []) (op a v : Int) : nts (h.noted op a v) = nts h ++ [⟨op, a, v⟩] := by
 unfold nts Th.noted
 rw [cur_mod hl]
theorem RdQ.of {K : Cx} {h h' : Th} {i : InsD} {a : Int} (R : RdQ K h i a) (e1 : nts h' = nts h) (e2 : h'.job = h.job) (S : SimA h'.x h.x) : RdQ K h' i a := by
 refine ⟨⟨R.1.1, R.1.2.1, ?_, R.1.2.2.2⟩, fun W hw => ?_⟩
 ·rw [R.1.2.2.1]; unfold regOf; rw [S.regs]
 ·rw [e1] at hw
  have := (R.2 W hw).of S
  unfold codeOf at this ⊢
  rw [e2]; exact this
theorem WrQ.of {K : Cx} {h h' : Th} {i : InsD} {a : Int} (R : WrQ K h i a) (e1 : nts h' = nts h) (e2 : h'.job = h.job) (S : SimA h'.x h.x) : WrQ K h' i a := by
 refine ⟨⟨R.1.1, R.1.2.1, ?_, R.1.2.2.2⟩, fun W hw => ?_⟩
 ·rw [R.1.2.2.1]; unfold regOf; rw [S.regs]
 ·rw [e1] at hw
  have := (R.2 W hw).of S
  unfold codeOf at this ⊢
  rw [e2]; exact this
theorem QQ.of {K : Cx} {h h' : Th} (R : QQ K h) (e1 : nts h' = nts h) (e2 : h'.job = h.job) (S : SimA h'.x h.x) : QQ K h' := fun W hw => by
 rw [e1] at hw
 have := (R W hw).of S
 unfold codeOf at this ⊢
 rw [e2]; exact this
theorem EndQ.of {K : Cx} {h h' : Th} {e : Int} (R : EndQ K h e) (e0 : h'.list ≠ []) (e1 : nts h' = nts h) (e2 : h'.job = h.job) (r : h'.x.regs = h.x.regs) (w : h'.x.writes = h.x.writes) : EndQ K h' e := by
 refine ⟨⟨e0, fun f a => ?_⟩, fun W hw => ?_⟩
 ·rw [e1, w]; exact R.1.2 f a
 ·rw [e1] at hw
  have := (R.2 W hw).of r w
  unfold codeOf at this ⊢
  rw [e2]; exact this
theorem SimA.refl (x : TS) : SimA x x := ⟨rfl, rfl, rfl, rfl, rfl⟩
theorem sq_close {K : Cx} {h : Th} {e : Int} (wh : Wh K h) (E : EndQ K h e) : SQ K (hClose e h) := by
 unfold hClose
 split
 ·rename_i he
  rw [he.1] at E
  exact E.of E.1.1 rfl rfl rfl rfl
 ·rename_i he
  unfold hFreeAt
  cases hh : h.x.held with
  | nil =>
   refine ⟨E.of E.1.1 rfl rfl rfl rfl, fun _ => Or.inl ?_⟩
   cases hw : h.x.writes with
   | nil => rfl
   | cons q r =>
    have := wh q (by rw [hw]; exact List.mem_cons_self)
    rw [hh] at this
    cases this
  | cons q r => exact ⟨E.of E.1.1 rfl rfl rfl rfl, fun e1 => he ⟨e1, by rw [hh]; simp⟩⟩
structure PQ (K : Cx) (k : Int) (h : Th) : Prop where
 q : QQ K h
 o : OvX h
 n : Onn K k h
 w : Wh K h
def Did3 (K : Cx) (k : Int) (t : Bool × Th) : Prop := (t.1 = true → QQ K t.2 ∧ OvX t.2 ∧ Wh K t.2) ∧ (t.1 = false → SQ K t.2)
theorem Did3.off {K : Cx} {k : Int} {h' : Th} (A : SQ K h') : Did3 K k (false, h') := ⟨(fun e => nomatch e), fun _ => A⟩
theorem Did3.on {K : Cx} {k : Int} {h' : Th} (A : QQ K h') (B : OvX h') (C : Wh K h') : Did3 K k (true, h') := ⟨fun _ => ⟨A, B, C⟩, (fun e => nomatch e)⟩
theorem q_read {K : Cx} {h : Th} {i : InsD} {a v : Int} (O : OvX h) (hb : (h.x.begun : Int) ≤ K.c.f) (R : RdQ K h i a) : QQ K (({ h with x := setReg h.x i.a v } : Th).noted 7 a v) ∧ OvX (({ h with x := setReg h.x i.a v } : Th).noted 7 a v) := by
 have e : nts (({ h with x := setReg h.x i.a v } : Th).noted 7 a v) = nts h ++ [⟨7, a, v⟩] := nts_noted (h := { h with x := setReg h.x i.a v }) O.1 7 a v
 refine ⟨fun W hw => ?_, mod_ne O.1 _, fun f b => ?_⟩
 ·rw [e, fOk_snoc] at hw
  have hv := hw.2 rfl
  rw [O.2] at hv
  obtain ⟨⟨r1, r2, r3, r4⟩, r5⟩ := R
  refine mid_read (r5 W hw.1) r1 r2 (by rw [← r3]; exact r4) hb ?_
  rw [vRead_over, ← r3]
  exact hv
 ·rw [e, overN_snoc, if_pos rfl]
  exact O.2 f b
theorem q_put {K : Cx} {h : Th} {i : InsD} {a : Int} (O : OvX h) (hb : (h.x.begun : Int) ≤ K.c.f) (R : WrQ K h i a) : QQ K (hPut i a h) ∧ OvX (hPut i a h) := by
 have e : nts (hPut i a h) = nts h ++ [⟨8, a, regOf h.x i.b⟩] := nts_noted (h := { h with x := { h.x with writes := putEnt h.x.writes a (regOf h.x i.b) } }) O.1 8 a _
 refine ⟨fun W hw => ?_, mod_ne O.1 _, fun f b => ?_⟩
 ·rw [e, fOk_snoc] at hw
  obtain ⟨⟨r1, r2, r3, r4⟩, r5⟩ := R
  have := mid_write (r5 W hw.1) r1 r2 (by rw [← r3]; exact r4) hb
  rw [← r3] at this
  exact this
 ·rw [e, overN_snoc, if_neg (by show ¬ ((8 : Int) = 7); omega)]
  show upd (overN (nts h) f) a (regOf h.x i.b) b = overW (putEnt h.x.writes a (regOf h.x i.b)) f b
  rw [overW_put]
  unfold upd
  rw [O.2]
theorem sq_step {K : Cx} {k : Int} {h : Th} (P : PQ K k h) : Did3 K k (hStep K h) := by
 have hX := P.n.x
 have hbg := hX.bg
 have Q := P.q
 unfold hStep
 have fin : ∀ (e : Int) (x' : TS), e ≠ 0 → x'.regs = h.x.regs → x'.writes = h.x.writes → x'.held = h.x.held → (∀ W r y, SimA h.x y → (iStep K.c W r y).1 = e ∧ (iStep K.c W r y).2.2.1.regs = y.regs ∧ (iStep K.c W r y).2.2.1.writes = y.writes) → Did3 K k (false, hClose e { h with x := x' }) := fun e x' he e1 e2 e3 H => by
  refine Did3.off (sq_close (fun q hq => ?_) ⟨⟨P.o.1, fun f a => ?_⟩, fun W hw => ?_⟩)
  ·show q.what.tmod K.c.s ∈ x'.held
   rw [e3]
   exact P.w q (by rw [← e2]; exact hq)
  ·show overN (nts h) f a = overW x'.writes f a
   rw [e2]; exact P.o.2 f a
  ·exact (goes_fin he (Q W hw) (H W)).of e1 e2
 by_cases h1 : h.x.place = h.x.code.length
 ·rw [if_pos h1]
  refine fin 1 h.x (by omega) rfl rfl rfl (fun W r y S => ?_)
  unfold iStep
  rw [if_pos (by rw [← S.place, ← S.code]; exact h1)]
  exact ⟨rfl, rfl, rfl⟩
 rw [if_neg h1]
 by_cases h2 : (h.x.begun : Int) = K.c.f
 ·rw [if_pos h2]
  refine fin 4 h.x (by omega) rfl rfl rfl (fun W r y S => ?_)
  unfold iStep
  rw [if_neg (by rw [← S.place, ← S.code]; exact h1), if_pos (by rw [← S.begun]; exact h2)]
  exact ⟨rfl, rfl, rfl⟩
 rw [if_neg h2]
 simp only
 generalize hi : insAt h.x.code h.x.place = i at *
 have eI : ∀ {y : TS}, SimA h.x y → insAt y.code y.place = i := fun {y} S => by rw [← S.place, ← S.code]; exact hi
 have eL : ∀ {y : TS}, SimA h.x y → y.code.length = h.x.code.length := fun {y} S => by rw [← S.code]
 by_cases h3 : formedB i h.x.code.length = false
 ·rw [if_pos h3]
  refine fin 3 { h.x with begun := h.x.begun + 1 } (by omega) rfl rfl rfl (fun W r y S => ?_)
  unfold iStep
  rw [if_neg (by rw [← S.place, ← S.code]; exact h1), if_neg (by rw [← S.begun]; exact h2)]
  simp only
  rw [eI S, eL S, if_pos h3]
  exact ⟨rfl, rfl, rfl⟩
 rw [if_neg h3]
 have h3' : formedB i h.x.code.length = true := by simpa using h3
 have stepY : ∀ {W : Int → Int} {r : Int} {y : TS}, SimA h.x y → iStep K.c W r y = if i.op = 0 then (1, r, { y with begun := y.begun + 1, place := y.place + 1 }, []) else if i.op = 1 then (2, r, { y with begun := y.begun + 1, place := y.place + 1 }, []) else if i.op = 2 then (0, r, setReg { y with begun := y.begun + 1, place := y.place + 1 } i.a i.b, []) else if i.op = 3 then (0, r, setReg { y with begun := y.begun + 1, place := y.place + 1 } i.a ((regOf { y with begun := y.begun + 1, place := y.place + 1 } i.b + regOf { y with begun := y.begun + 1, place := y.place + 1 } i.c).tmod 65536), [])
   else if i.op = 4 then (0, r, setReg { y with begun := y.begun + 1, place := y.place + 1 } i.a ((regOf { y with begun := y.begun + 1, place := y.place + 1 } i.b + 65535 + 1 - regOf { y with begun := y.begun + 1, place := y.place + 1 } i.c).tmod 65536), []) else if i.op = 5 then (0, r, { { y with begun := y.begun + 1, place := y.place + 1 } with place := i.c.toNat }, [])
   else if i.op = 6 then (0, r, if regOf { y with begun := y.begun + 1, place := y.place + 1 } i.a < regOf { y with begun := y.begun + 1, place := y.place + 1 } i.b then { { y with begun := y.begun + 1, place := y.place + 1 } with place := i.c.toNat } else { y with begun := y.begun + 1, place := y.place + 1 }, []) else if i.op = 7 then iRead K.c W r { y with begun := y.begun + 1, place := y.place + 1 } i else iWrite K.c r { y with begun := y.begun + 1, place := y.place + 1 } i := fun {W r y} S =>
  iStep_eq K.c W r y (by rw [← S.place, ← S.code]; exact h1) (by rw [← S.begun]; exact h2) (by rw [eI S, eL S]; exact h3') _ rfl i (eI S).symm
 have eR : ∀ {y : TS}, SimA h.x y → ∀ q, regOf { y with begun := y.begun + 1, place := y.place + 1 } q = regOf { h.x with begun := h.x.begun + 1, place := h.x.place + 1 } q := fun {y} S q => by
  unfold regOf
  show y.regs.getD _ 0 = h.x.regs.getD _ 0
  rw [S.regs]
 have on : ∀ x' : TS, x'.begun = h.x.begun + 1 → x'.writes = h.x.writes → x'.held = h.x.held → (∀ W r y, SimA h.x y → (iStep K.c W r y).1 = 0 ∧ SimA x' (iStep K.c W r y).2.2.1) → Did3 K k (true, { h with x := x' }) := fun x' e1 e2 e3 H => by
  refine Did3.on (fun W hw => ?_) ⟨P.o.1, fun f a => ?_⟩ (fun q hq => ?_)
  ·exact goes_next (Q W hw) e1 (by show (x'.begun : Int) ≤ K.c.f; omega) (H W)
  ·show overN (nts h) f a = overW x'.writes f a
   rw [e2]; exact P.o.2 f a
  ·show q.what.tmod K.c.s ∈ x'.held
   rw [e3]
   exact P.w q (by rw [← e2]; exact hq)
 by_cases o0 : i.op = 0
 ·rw [if_pos o0]
  refine fin 1 { h.x with begun := h.x.begun + 1, place := h.x.place + 1 } (by omega) rfl rfl rfl (fun W r y S => ?_)
  rw [stepY S, if_pos o0]
  exact ⟨rfl, rfl, rfl⟩
 rw [if_neg o0]
 by_cases o1 : i.op = 1
 ·rw [if_pos o1]
  refine fin 2 { h.x with begun := h.x.begun + 1, place := h.x.place + 1 } (by omega) rfl rfl rfl (fun W r y S => ?_)
  rw [stepY S, if_neg o0, if_pos o1]
  exact ⟨rfl, rfl, rfl⟩
 rw [if_neg o1]
 have sim2 : ∀ {y : TS}, SimA h.x y → SimA { h.x with begun := h.x.begun + 1, place := h.x.place + 1 } { y with begun := y.begun + 1, place := y.place + 1 } := fun {y} S => ⟨S.code, S.regs, by show h.x.place + 1 = y.place + 1; rw [S.place], by show h.x.begun + 1 = y.begun + 1; rw [S.begun], S.writes⟩
 have simR : ∀ {x y : TS} (a v : Int), SimA x y → SimA (setReg x a v) (setReg y a v) := fun {x y} a v S => ⟨S.code, by show x.regs.set _ _ = y.regs.set _ _; rw [S.regs], S.place, S.begun, S.writes⟩
 by_cases o2 : i.op = 2
 ·rw [if_pos o2]
  refine on _ rfl rfl rfl (fun W r y S => ?_)
  rw [stepY S, if_neg o0, if_neg o1, if_pos o2]
  exact ⟨rfl, simR _ _ (sim2 S)⟩
 rw [if_neg o2]
 by_cases o3 : i.op = 3
 ·rw [if_pos o3]
  refine on _ rfl rfl rfl (fun W r y S => ?_)
  rw [stepY S, if_neg o0, if_neg o1, if_neg o2, if_pos o3, eR S, eR S]
  exact ⟨rfl, simR _ _ (sim2 S)⟩
 rw [if_neg o3]
 by_cases o4 : i.op = 4
 ·rw [if_pos o4]
  refine on _ rfl rfl rfl (fun W r y S => ?_)
  rw [stepY S, if_neg o0, if_neg o1, if_neg o2, if_neg o3, if_pos o4, eR S, eR S]
  exact ⟨rfl, simR _ _ (sim2 S)⟩
 rw [if_neg o4]
 by_cases o5 : i.op = 5
 ·rw [if_pos o5]
  refine on _ rfl rfl rfl (fun W r y S => ?_)
  rw [stepY S, if_neg o0, if_neg o1, if_neg o2, if_neg o3, if_neg o4, if_pos o5]
  have s := sim2 S
  exact ⟨rfl, s.code, s.regs, rfl, s.begun, s.writes⟩
 rw [if_neg o5]
 by_cases o6 : i.op = 6
 ·rw [if_pos o6]
  refine on _ (by split <;> rfl) (by split <;> rfl) (by split <;> rfl) (fun W r y S => ?_)
  rw [stepY S, if_neg o0, if_neg o1, if_neg o2, if_neg o3, if_neg o4, if_neg o5, if_pos o6, eR S, eR S]
  have s := sim2 S
  refine ⟨rfl, ?_⟩
  split
  ·exact ⟨s.code, s.regs, rfl, s.begun, s.writes⟩
  ·exact s
 rw [if_neg o6]
 have hn : notW i := ⟨o0, o1, o2, o3, o4, o5, o6⟩
 have mid : ∀ W, fOk (nts h) W → MidA K.c W (codeOf K h) i { h.x with begun := h.x.begun + 1, place := h.x.place + 1 } := fun W hw => ⟨h.x, Q W hw, h1, h2, by rw [hi]; exact h3', hi, SimA.refl _⟩
 have hb2 : ((h.x.begun + 1 : Nat) : Int) ≤ K.c.f := by omega
 by_cases o7 : i.op = 7
 ·rw [if_pos o7]
  generalize hy : ({ h with x := { h.x with begun := h.x.begun + 1, place := h.x.place + 1 } } : Th) = y at *
  have ex : y.x = { h.x with begun := h.x.begun + 1, place := h.x.place + 1 } := by rw [← hy]
  have en : nts y = nts h := by rw [← hy]; rfl
  have ec : codeOf K y = codeOf K h := by rw [← hy]; rfl
  have eo : OvX y := by rw [← hy]; exact P.o
  have ew : Wh K y := by rw [← hy]; exact P.w
  have mid' : ∀ W, fOk (nts y) W → MidA K.c W (codeOf K y) i y.x := fun W hw => by rw [ex, ec]; exact mid W (by rw [← en]; exact hw)
  unfold hRead
  simp only
  split
  ·rename_i hw
   exact Did3.off (sq_close ew ⟨eo, fun W hf => mid_bad (mid' W hf) hn (Or.inl ⟨o7, hw⟩)⟩)
  ·rename_i hw
   have R : RdQ K y i (regOf y.x i.b) := ⟨⟨hn, o7, rfl, hw⟩, mid'⟩
   cases he : entIdx y.x.writes (regOf y.x i.b) with
   | some j =>
    have := q_read (K := K) (i := i) (a := regOf y.x i.b) (v := (y.x.writes.getD j ⟨0, 0⟩).val) eo (by rw [ex]; exact hb2) R
    exact Did3.on this.1 this.2 ew
   | none =>
    simp only
    refine Did3.off ?_
    split
    ·exact R.of rfl rfl (SimA.refl _)
    ·exact R.of rfl rfl (SimA.refl _)
 ·rw [if_neg o7]
  generalize hy : ({ h with x := { h.x with begun := h.x.begun + 1, place := h.x.place + 1 } } : Th) = y at *
  have ex : y.x = { h.x with begun := h.x.begun + 1, place := h.x.place + 1 } := by rw [← hy]
  have en : nts y = nts h := by rw [← hy]; rfl
  have ec : codeOf K y = codeOf K h := by rw [← hy]; rfl
  have eo : OvX y := by rw [← hy]; exact P.o
  have ew : Wh K y := by rw [← hy]; exact P.w
  have mid' : ∀ W, fOk (nts y) W → MidA K.c W (codeOf K y) i y.x := fun W hw => by rw [ex, ec]; exact mid W (by rw [← en]; exact hw)
  unfold hWrite
  simp only
  split
  ·rename_i hw
   exact Did3.off (sq_close ew ⟨eo, fun W hf => mid_bad (mid' W hf) hn (Or.inr ⟨o7, hw⟩)⟩)
  ·rename_i hw
   have R : WrQ K y i (regOf y.x i.a) := ⟨⟨hn, o7, rfl, hw⟩, mid'⟩
   split
   ·rename_i hh
    have := q_put (K := K) (i := i) (a := regOf y.x i.a) eo (by rw [ex]; exact hb2) R
    exact Did3.on this.1 this.2 (kept_put ew (held_true hh)).wh
   ·exact Did3.off (R.of rfl rfl (SimA.refl _))
theorem sq_go {K : Cx} {k : Int} {h : Th} (P : PQ K k h) : SQ K (hGo K h) :=
 go_ind (K := K) (PQ K k) (SQ K) (fun h' p => ⟨fun e => ⟨((sq_step p).1 e).1, ((sq_step p).1 e).2.1, (step_ok p.n).1 e, ((sq_step p).1 e).2.2⟩, (sq_step p).2⟩) h P.n.x.bg P
theorem sq_got {K : Cx} {k : Int} {h : Th} {i : InsD} {a v : Int} (A : Onn K k h) (O : OvX h) (w : Wh K h) (R : RdQ K h i a) (v0 : 0 ≤ v) (v1 : v ≤ 65535) : SQ K (hGot K i a v h) := by
 have q := q_read (v := v) O A.x.bg R
 exact sq_go ⟨q.1, q.2, (A.setx _ (A.x.setReg _ _ v0 v1)).noted _ _ _, w⟩
theorem sq_wrote {K : Cx} {k : Int} {h : Th} {i : InsD} {a : Int} (A : Onn K k h) (O : OvX h) (w : Wh K h) (R : WrQ K h i a) (ha : AOk K i a) (hh : a.tmod K.c.s ∈ h.x.held) : SQ K (hWrote K i a h) := by
 have q := q_put O A.x.bg R
 unfold hWrote
 split
 ·exact sq_go ⟨q.1, q.2, put_ok A ha.1 ha.2.1, (kept_put w hh).wh⟩
 ·exact q.1.of rfl rfl (SimA.refl _)
end Go.Proofs.YtejadojilncbjabGreat
