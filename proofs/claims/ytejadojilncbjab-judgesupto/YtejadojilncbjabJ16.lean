import Derived.Test.YtejadojilncbjabJ00
import Derived.Test.YtejadojilncbjabJ04
import Derived.Deep.LoopGhost
import Derived.BigRegion
import Derived.Deep.RegionLaw
import Derived.Test.YtejadojilncbjabJ13
import Derived.Test.YtejadojilncbjabJ01
import Derived.Deep.DeepCutAuto
namespace Go.Proofs.Ytejadojilncbjab
set_option linter.unusedVariables false

/-! A thread as a machine with states: what it asks next, and what follows what it sees. It keeps its state from pick to pick; that it does what the document's life tells is shown in the texts behind this one. -/

/-- What does not change. -/
structure Cx where
  c : Cfg
  me : Int
  jobs : List (Int × List InsD)

/-- What follows an extension: a Read, or a Write whose stripe was just got. -/
inductive Ex where
  | rd (i : InsD) (a v : Int)
  | wr (i : InsD) (a : Int)

/-- What the next access is for. -/
inductive St where
  | idle
  | start
  | rHeld (i : InsD) (a : Int)
  | rVer (i : InsD) (a : Int)
  | rWord (i : InsD) (a one : Int)
  | rAgain (i : InsD) (a one v : Int)
  | xClock (k : Ex)
  | xVer (k : Ex) (c : Int) (r : List EntD)
  | gStat (i : InsD) (a : Int)
  | gOwn (i : InsD) (a : Int)
  | gTheir (i : InsD) (a u : Int)
  | gMark (i : InsD) (a u th : Int)
  | gVer (i : InsD) (a : Int)
  | tTake
  | tShow
  | cStat
  | cGate
  | cClock
  | cVer (c : Int) (r : List EntD)
  | cShut (c : Int) (r : List Int)
  | cStamp (c : Int)
  | cLeave (c : Int)
  | cWord (c : Int) (r : List EntD)
  | cOpen (c : Int) (r : List Int)
  | cOwn (c : Int) (r : List Int)
  | free (e : Int) (r : List Int)
  | fin (e : Int)
  | fGate
  | fOwn (r : List Int)
  | fTake
  | fStat
  | wait (win : Int)
  | rest (n : Nat)

/-- A thread and how far it has come. -/
structure Th where
  rank : Int
  fails : Int
  list : List AttD
  ends : List ResD
  job : Nat
  x : TS
  st : St

def Th.noted (h : Th) (op a v : Int) : Th := { h with list := modLast h.list fun t => { t with notes := t.notes ++ [⟨op, a, v⟩] } }
def Th.ended (h : Th) (num fate : Int) : Th := { h with list := modLast h.list fun t => { t with fin := num, fate := fate } }

def hPut (i : InsD) (a : Int) (h : Th) : Th := ({ h with x := { h.x with writes := putEnt h.x.writes a (regOf h.x i.b) } } : Th).noted 8 a (regOf h.x i.b)

end Go.Proofs.Ytejadojilncbjab

namespace Go.Proofs.Ytejadojilncbjab
set_option linter.unusedVariables false

/-! The document's life asks what the machine asks: part 1. -/

/-- The life stands where the machine stands. -/
structure Eqs (E : Env) (p : Nat) (s : LS) (x : TS) (j : Nat) (h : Th) : Prop where
  over : s.over = false
  pos : s.pos ≤ E.seen.length
  lo : p ≤ s.pos
  rank : h.rank = s.rank
  fails : h.fails = s.fails
  list : h.list = s.list
  ends : h.ends = s.ends
  x : h.x = x
  job : h.job = j

theorem Eqs.st {E : Env} {p : Nat} {s : LS} {x : TS} {j : Nat} {h : Th} (A : Eqs E p s x j h) (a : St) : Eqs E p s x j { h with st := a } := ⟨A.over, A.pos, A.lo, A.rank, A.fails, A.list, A.ends, A.x, A.job⟩

theorem Eqs.noted {E : Env} {p : Nat} {s : LS} {x : TS} {j : Nat} {h : Th} (A : Eqs E p s x j h) (op a v : Int) : Eqs E p (mNoted s op a v) x j (h.noted op a v) :=
  ⟨A.over, A.pos, A.lo, A.rank, A.fails, by show modLast h.list _ = modLast s.list _; rw [A.list], A.ends, A.x, A.job⟩
theorem Eqs.setx {E : Env} {p : Nat} {s : LS} {x : TS} {j : Nat} {h : Th} (A : Eqs E p s x j h) (y : TS) : Eqs E p s y j { h with x := y } := ⟨A.over, A.pos, A.lo, A.rank, A.fails, A.list, A.ends, rfl, A.job⟩
theorem Eqs.put {E : Env} {p : Nat} {s : LS} {x : TS} {j : Nat} {h : Th} (A : Eqs E p s x j h) (i : InsD) (a : Int) : Eqs E p (mNoted s 8 a (regOf x i.b)) { x with writes := putEnt x.writes a (regOf x i.b) } j (hPut i a h) := by
  have := (A.setx { x with writes := putEnt x.writes a (regOf x i.b) }).noted 8 a (regOf x i.b)
  unfold hPut
  rw [A.x]
  exact this

end Go.Proofs.Ytejadojilncbjab

namespace Go.Proofs.Ytejadojilncbjab
set_option linter.unusedVariables false

/-! The document's life asks what the machine asks: part 4: a failure, an attempt, all jobs. -/

theorem Eqs.ended {E : Env} {p : Nat} {s : LS} {x : TS} {j : Nat} {h : Th} (A : Eqs E p s x j h) (fate num : Int) (hn : num = E.whens.getD (s.pos - 1) 0) : Eqs E p (mEnded E s fate) x j (h.ended num fate) :=
  ⟨A.over, A.pos, A.lo, A.rank, A.fails, by show modLast h.list _ = modLast s.list _; rw [A.list, hn], A.ends, A.x, A.job⟩

end Go.Proofs.Ytejadojilncbjab

namespace Go.Proofs.Ytejadojilncbjab
open Go.RowKit
set_option linter.unusedVariables false
attribute [local go_sem ↓] Go.wp_at_zero Go.wp_at_succ

theorem TryR.writes {B p eb xb : Nat} {w : World} {x : TS} (h : TryR B p eb xb w x) : ∃ wa wc, w.cell? ⟨xb, 9, none⟩ = some (.slice wa x.writes.length wc) ∧ EntsIn w wa x.writes := by
  obtain ⟨ca, cc, ra, rc, wa, wc, ha, hc, hb, hcd, hcf, h3, h4, h5, h6⟩ := h.blk
  exact ⟨wa, wc, by rw [hb.cell]; rfl, ents_of h4⟩

end Go.Proofs.Ytejadojilncbjab

namespace Go.Proofs.Ytejadojilncbjab
set_option linter.unusedVariables false

/-- What is known of an attempt under way. -/
structure TsOk (n : Nat) (x : TS) : Prop where
  rd : ∀ e ∈ x.reads, -8 ≤ e.what ∧ e.what ≤ 8
  wr : ∀ e ∈ x.writes, -70000 ≤ e.what ∧ e.what ≤ 1125899906842624
  hd : ∀ h ∈ x.held, -8 ≤ h ∧ h ≤ 8
  rg : ∀ r ∈ x.regs, -70000 ≤ r ∧ r ≤ 1125899906842624
  rl : x.reads.length ≤ n
  wl : x.writes.length ≤ n
  hl : x.held.length ≤ n
  way0 : -2 ≤ x.way
  way1 : x.way ≤ 1125899906842624
  four : x.regs.length = 4

theorem TsOk.setReg {n : Nat} {x : TS} (h : TsOk n x) (i v : Int) (h1 : -70000 ≤ v) (h2 : v ≤ 1125899906842624) : TsOk n (setReg x i v) :=
  ⟨h.rd, h.wr, h.hd, fun r hr => by
    rcases List.mem_or_eq_of_mem_set hr with h3 | h3
    · exact h.rg r h3
    · rw [h3]; exact ⟨h1, h2⟩, h.rl, h.wl, h.hl, h.way0, h.way1, by simp [Go.Proofs.Ytejadojilncbjab.setReg, h.four]⟩

/-- The attempts are as many, each with as many notes. -/
def SN (s s' : LS) : Prop := s'.list.map (fun a => a.notes.length) = s.list.map (fun a => a.notes.length)

theorem SN.refl (s : LS) : SN s s := rfl
theorem SN.trans {a b c : LS} (h : SN a b) (k : SN b c) : SN a c := Eq.trans k h
theorem SN.modLast {s s' : LS} {f : AttD → AttD} (hf : ∀ a, (f a).notes = a.notes) (h : s'.list = Go.Proofs.Ytejadojilncbjab.modLast s.list f) : SN s s' := by
  unfold SN
  rw [h]
  unfold Go.Proofs.Ytejadojilncbjab.modLast
  apply List.ext_getElem?
  intro i
  rw [List.getElem?_map, List.getElem?_map, List.getElem?_modify]
  cases s.list[i]? with
  | none => simp
  | some a => by_cases h : s.list.length - 1 = i <;> simp [h, hf]

structure NotesOk (n : Nat) (s : LS) : Prop where
  ne : s.list ≠ []
  len : s.list.length ≤ 2 ^ 42
  nt : ∀ a ∈ s.list, a.notes.length ≤ n

theorem NotesOk.sn {n : Nat} {s s' : LS} (h : NotesOk n s) (k : SN s s') : NotesOk n s' := by
  have hl : s'.list.length = s.list.length := by have := congrArg List.length k; simpa using this
  refine ⟨fun e => h.ne ?_, by rw [hl]; exact h.len, fun a ha => ?_⟩
  · rw [e] at hl; exact List.length_eq_zero_iff.1 hl.symm
  · have h1 : a.notes.length ∈ s'.list.map (fun a => a.notes.length) := List.mem_map_of_mem ha
    rw [k] at h1
    obtain ⟨b, hb, e⟩ := List.mem_map.1 h1
    rw [← e]; exact h.nt b hb

/-- What an answer keeps: the numbers of a life. -/
structure LsOk (E : Env) (s s' : LS) : Prop where
  pos : s'.pos ≤ E.seen.length
  mono : s.pos ≤ s'.pos
  sn : SN s s'
  rank : s'.rank = s.rank
  fails : s'.fails = s.fails
theorem LsOk.refl {E : Env} {s : LS} (h : s.pos ≤ E.seen.length) : LsOk E s s := ⟨h, Nat.le_refl _, SN.refl _, rfl, rfl⟩
theorem LsOk.trans {E : Env} {a b c : LS} (h : LsOk E a b) (k : LsOk E b c) : LsOk E a c := ⟨k.pos, Nat.le_trans h.mono k.mono, h.sn.trans k.sn, k.rank.trans h.rank, k.fails.trans h.fails⟩
end Go.Proofs.Ytejadojilncbjab

namespace Go.Proofs.Ytejadojilncbjab
open Go.RowKit
set_option linter.unusedVariables false
attribute [local go_sem ↓] Go.wp_at_zero Go.wp_at_succ

theorem lt4 {k : Nat} (h : k < 4) : k = 0 ∨ k = 1 ∨ k = 2 ∨ k = 3 := by omega

theorem TryR.setReg {B p eb xb : Nat} {w : World} {x : TS} (hT : TryR B p eb xb w x) (hB : B ≤ w.heap.size) (k : Nat) (hk : k < 4) (v : Int) :
    TryR B p eb xb (w.setCell ⟨xb, 1 + k, none⟩ (.int .i64 v)) { x with regs := x.regs.set k v } ∧ Kp [130] B p eb w (w.setCell ⟨xb, 1 + k, none⟩ (.int .i64 v)) := by
  refine hT.set hB rfl rfl rfl rfl (by simp [hT.regs]) (fun _ _ _ _ _ _ _ _ => ?_)
  have h4 := hT.regs
  obtain ⟨code, regs, place, begun, valid, reads, writes, held, inGate, way⟩ := x
  match regs, h4 with
  | [r0, r1, r2, r3], _ =>
    rcases lt4 hk with rfl | rfl | rfl | rfl <;> rfl

end Go.Proofs.Ytejadojilncbjab

namespace Go.Proofs.Ytejadojilncbjab
open Go.RowKit
set_option linter.unusedVariables false
attribute [local go_sem ↓] Go.wp_at_zero Go.wp_at_succ

theorem LifeR.rank {E : Env} {H : Hd} {B p eb : Nat} {w : World} {s : LS} (h : LifeR E H B p eb w s) : w.cell? ⟨p, 19, none⟩ = some (.int .i64 s.rank) := by
  obtain ⟨la, lc, hb, _⟩ := h.life
  rw [hb.cell]; rfl

end Go.Proofs.Ytejadojilncbjab

namespace Go.Proofs.Ytejadojilncbjab
open Go.RowKit
set_option linter.unusedVariables false
attribute [local go_sem ↓] Go.wp_at_zero Go.wp_at_succ

theorem TsOk.putEnt {n : Nat} {x : TS} (h : TsOk n x) (a v : Int) (h1 : -70000 ≤ a) (h2 : a ≤ 1125899906842624) : TsOk (n + 1) { x with writes := Go.Proofs.Ytejadojilncbjab.putEnt x.writes a v } := by
  have hw : (∀ e ∈ Go.Proofs.Ytejadojilncbjab.putEnt x.writes a v, -70000 ≤ e.what ∧ e.what ≤ 1125899906842624) ∧ (Go.Proofs.Ytejadojilncbjab.putEnt x.writes a v).length ≤ n + 1 := by
    unfold Go.Proofs.Ytejadojilncbjab.putEnt
    split
    · refine ⟨fun e he => ?_, by have := h.wl; simp; omega⟩
      rcases List.mem_or_eq_of_mem_set he with h3 | h3
      · exact h.wr e h3
      · rw [h3]; exact ⟨h1, h2⟩
    · refine ⟨fun e he => ?_, by have := h.wl; simp; omega⟩
      rcases List.mem_append.1 he with h3 | h3
      · exact h.wr e h3
      · simp at h3; subst h3; exact ⟨h1, h2⟩
  exact ⟨h.rd, hw.1, h.hd, h.rg, Nat.le_trans h.rl (Nat.le_succ n), hw.2, Nat.le_trans h.hl (Nat.le_succ n), h.way0, h.way1, h.four⟩

end Go.Proofs.Ytejadojilncbjab

namespace Go.Proofs.Ytejadojilncbjab
set_option linter.unusedVariables false

/-- The code, the place and the count of an attempt. -/
def Same (x x' : TS) : Prop := x'.code = x.code ∧ x'.place = x.place ∧ x'.begun = x.begun ∧ x'.writes = x.writes ∧ x'.regs = x.regs
theorem Same.refl (x : TS) : Same x x := ⟨rfl, rfl, rfl, rfl, rfl⟩
theorem Same.trans {a b c : TS} (h : Same a b) (k : Same b c) : Same a c := ⟨k.1.trans h.1, k.2.1.trans h.2.1, k.2.2.1.trans h.2.2.1, k.2.2.2.1.trans h.2.2.2.1, k.2.2.2.2.trans h.2.2.2.2⟩

def WvOk (x : TS) : Prop := ∀ e ∈ x.writes, -70000 ≤ e.val ∧ e.val ≤ 1125899906842624

theorem SN.len {s s' : LS} (h : SN s s') : s'.list.length = s.list.length := by have := congrArg List.length h; simpa using this

theorem NotesOk.noted {n : Nat} {s : LS} (h : NotesOk n s) (op addr val : Int) : NotesOk (n + 1) (mNoted s op addr val) := by
  have hl : (mNoted s op addr val).list.length = s.list.length := by simp [mNoted, modLast]
  refine ⟨fun e => h.ne ?_, by rw [hl]; exact h.len, fun a ha => ?_⟩
  · rw [e] at hl; exact List.length_eq_zero_iff.1 hl.symm
  · obtain ⟨i, hi, rfl⟩ := List.mem_iff_getElem.1 ha
    have h1 : (mNoted s op addr val).list[i]? = some ((mNoted s op addr val).list[i]) := List.getElem?_eq_getElem hi
    have hi' : i < s.list.length := by rw [← hl]; exact hi
    have h2 : (mNoted s op addr val).list[i]? = (s.list[i]?).map (if s.list.length - 1 = i then (fun a : AttD => { a with notes := a.notes ++ [⟨op, addr, val⟩] }) else id) := by
      show (modLast s.list _)[i]? = _
      unfold modLast
      rw [List.getElem?_modify]
      cases s.list[i]? with
      | none => rfl
      | some a => by_cases h : s.list.length - 1 = i <;> simp [h]
    rw [h1, List.getElem?_eq_getElem hi'] at h2
    have hb := h.nt s.list[i] (List.getElem_mem hi')
    simp at h2
    rw [h2]
    split
    · simp; omega
    · simp; omega

theorem WvOk.of {x x' : TS} (h : WvOk x) (e : x'.writes = x.writes) : WvOk x' := fun y hy => h y (by rw [← e]; exact hy)

end Go.Proofs.Ytejadojilncbjab

namespace Go.Proofs.Ytejadojilncbjab
set_option linter.unusedVariables false

theorem WvOk.put {x : TS} (h : WvOk x) (a v : Int) (h1 : -70000 ≤ v) (h2 : v ≤ 1125899906842624) : WvOk { x with writes := putEnt x.writes a v } := by
  intro e he
  have he' : e ∈ putEnt x.writes a v := he
  unfold putEnt at he'
  split at he'
  · rcases List.mem_or_eq_of_mem_set he' with h3 | h3
    · exact h e h3
    · rw [h3]; exact ⟨h1, h2⟩
  · rcases List.mem_append.1 he' with h3 | h3
    · exact h e h3
    · simp at h3; subst h3; exact ⟨h1, h2⟩

theorem TsOk.at {n : Nat} {x : TS} (h : TsOk n x) (b q : Nat) : TsOk n { x with begun := b, place := q } := ⟨h.rd, h.wr, h.hd, h.rg, h.rl, h.wl, h.hl, h.way0, h.way1, h.four⟩

end Go.Proofs.Ytejadojilncbjab

namespace Go.Proofs.Ytejadojilncbjab
set_option linter.unusedVariables false

/-- LsOk, and the ends as they were. -/
structure LeOk (E : Env) (s s' : LS) : Prop where
  ls : LsOk E s s'
  ends : s'.ends = s.ends
theorem LeOk.refl {E : Env} {s : LS} (h : s.pos ≤ E.seen.length) : LeOk E s s := ⟨LsOk.refl h, rfl⟩
theorem LeOk.trans {E : Env} {a b c : LS} (h : LeOk E a b) (k : LeOk E b c) : LeOk E a c := ⟨h.ls.trans k.ls, k.ends.trans h.ends⟩
end Go.Proofs.Ytejadojilncbjab

namespace Go.Proofs.Ytejadojilncbjab
open Go.RowKit
set_option linter.unusedVariables false
attribute [local go_sem ↓] Go.wp_at_zero Go.wp_at_succ

/-- A new attempt in memory. -/
theorem TryR.new {E : Env} {B p eb : Nat} {w : World} {ca : Option Addr} {cc : Nat} {code : List InsD} {v : Int} (hB : B ≤ w.heap.size) (hcd : CodeIn w B ca code) (hcf : FarC B p eb ca code) :
    TryR B p eb w.heap.size (w.alloc (.cells #[.slice ca code.length cc, .int .i64 0, .int .i64 0, .int .i64 0, .int .i64 0, .int .i64 0, .int .i64 0, .int .i64 v, .slice none 0 0, .slice none 0 0, .slice none 0 0, .bool false, .int .i64 (-1)] 130)) (newTS code v) := by
  have hk : Kp [] B p eb w (w.alloc (.cells #[.slice ca code.length cc, .int .i64 0, .int .i64 0, .int .i64 0, .int .i64 0, .int .i64 0, .int .i64 0, .int .i64 v, .slice none 0 0, .slice none 0 0, .slice none 0 0, .bool false, .int .i64 (-1)] 130)) := Kp.below ((Below.refl _ _).alloc (Nat.le_refl _) _) hB
  exact ⟨⟨ca, cc, none, 0, none, 0, none, 0, Blk.new _ _ _, hcd.keep hcf hk, hcf, World.ownsRow_nil _ _ _ _, World.ownsRow_nil _ _ _ _, World.ownsRow_nil _ _ _ _, fun k h => by simp [Value.ownBlock] at h⟩, hB, rfl⟩

end Go.Proofs.Ytejadojilncbjab
