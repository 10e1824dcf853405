import Derived.Test.YtejadojilncbjabGreatD05
import Derived.Deep.DeepCutAuto
import Derived.Test.YtejadojilncbjabGreatD06
import Derived.Test.YtejadojilncbjabGreatD04
import Derived.Test.YtejadojilncbjabGreatD07
namespace Go.Proofs.YtejadojilncbjabGreat
open Go.RowKit
set_option linter.unusedVariables false
attribute [local go_sem ↓] Go.wp_at_zero Go.wp_at_succ
def JobsRep (w : World) (B : Nat) (ja : Option Addr) (jobs : List (Int × List InsD)) : Prop :=
 ∃ js : List JobD, js.length = jobs.length ∧ JobsIn w B ja js ∧ ∀ i, i < js.length → (jobAt js i).t = (jobs.getD i (0, [])).1 ∧ (jobAt js i).len = (jobs.getD i (0, [])).2.length ∧ CodeIn w B (jobAt js i).a (jobs.getD i (0, [])).2
theorem CodeIn.up {w w' : World} {n : Nat} {a : Option Addr} {is : List InsD} (h : CodeIn w n a is) (hb : Below n w w') : CodeIn w' n a is := by
 intro i hi
 obtain ⟨b, off, ha, hlt, h0, h1, h2, h3⟩ := h i hi
 have e : ∀ o, w'.cell? ⟨b, o, none⟩ = w.cell? ⟨b, o, none⟩ := fun o => World.cell?_of_block (hb.block b hlt)
 exact ⟨b, off, ha, hlt, (e _).trans h0, (e _).trans h1, (e _).trans h2, (e _).trans h3⟩
theorem JobsRep.up {w w' : World} {n : Nat} {ja : Option Addr} {jobs : List (Int × List InsD)} (h : JobsRep w n ja jobs) (hb : Below n w w') : JobsRep w' n ja jobs := by
 obtain ⟨js, h1, h2, h3⟩ := h
 refine ⟨js, h1, fun i hi => ?_, fun i hi => ⟨(h3 i hi).1, (h3 i hi).2.1, (h3 i hi).2.2.up hb⟩⟩
 obtain ⟨b, off, ha, hlt, k0, k1⟩ := h2 i hi
 have e : ∀ o, w'.cell? ⟨b, o, none⟩ = w.cell? ⟨b, o, none⟩ := fun o => World.cell?_of_block (hb.block b hlt)
 exact ⟨b, off, ha, hlt, (e _).trans k0, (e _).trans k1⟩
theorem PicksIn.up {w w' : World} {n : Nat} {a : Option Addr} {l : List PickD} (h : PicksIn w n a l) (hb : Below n w w') : PicksIn w' n a l := by
 intro i hi
 obtain ⟨b, off, ha, hlt, k0, k1⟩ := h i hi
 have e : ∀ o, w'.cell? ⟨b, o, none⟩ = w.cell? ⟨b, o, none⟩ := fun o => World.cell?_of_block (hb.block b hlt)
 exact ⟨b, off, ha, hlt, (e _).trans k0, (e _).trans k1⟩
theorem TellR.life {c : Cfg} {me : Int} {jobs : List (Int × List InsD)} {ma ja : Option Addr} {ml mc jc n : Nat} {w : World} {S D W : List Int}
  (h : TellR c me jobs ma ja ml mc jc (n + 3) (n + 2) (n + 1) w S D W) (hj : JobsRep w n ja jobs) (he : Blk w (n + 1) 47 ((jobs.map fun _ => (⟨0, 0, 0, 0, 0⟩ : ResD)).flatMap resCells).toArray) (hsz : n + 3 ≤ w.heap.size) :
  ∃ H, LifeR ⟨c, me, S, D, W, jobs⟩ H w.heap.size (n + 2) (n + 1) w (newLS ⟨c, me, S, D, W, jobs⟩) ∧ H.ea = some ⟨n + 1, 0, none⟩ ∧ H.ec = jobs.length := by
 obtain ⟨sa, sc, da, dc, wa, wc, hb, hs, hd, hw, _, _, _⟩ := h
 have far : ∀ {a : Option Addr} {k : Nat} {l : List Int}, Row w (n + 3) a k l → Far w.heap.size (n + 2) (n + 1) a := fun {a k l} h b off e => by
  have := h.base _ e
  simp only at this
  exact ⟨this.2, by omega, by omega⟩
 obtain ⟨js, h1, h2, h3⟩ := hj
 refine ⟨⟨ma, ml, mc, ja, jc, sa, sc, da, dc, wa, wc, some ⟨n + 1, 0, none⟩, jobs.length⟩, ⟨⟨Nat.le_refl _, hs.ints, far hs, hd.ints, far hd, hw.ints, far hw, ⟨js, h1, fun i hi => ?_, fun i hi => ⟨(h3 i hi).1, (h3 i hi).2.1, fun k hk => ?_, fun hne => ?_⟩⟩, fun hne => ?_⟩, ⟨none, 0, hb, ⟨[], rfl, World.ownsRow_nil _ _ _ _, by simp [newLS], by simp⟩⟩, Or.inr ⟨rfl, he⟩, by omega, by omega, by omega⟩, rfl, rfl⟩
 ·obtain ⟨b, off, ha, hlt, k0, k1⟩ := h2 i hi
  exact ⟨b, off, ha, by omega, k0, k1⟩
 ·obtain ⟨b, off, ha, hlt, k0, k1, k2, k3⟩ := (h3 i hi).2.2 k hk
  exact ⟨b, off, ha, by omega, k0, k1, k2, k3⟩
 ·intro b off e
  obtain ⟨b', off', ha, hlt, _⟩ := (h3 i hi).2.2 0 (List.length_pos_iff.2 hne)
  rw [ha] at e
  cases e
  exact ⟨by omega, by omega, by omega⟩
 ·intro b off e
  obtain ⟨b', off', ha, hlt, _⟩ := h2 0 (by rw [h1]; exact List.length_pos_iff.2 hne)
  rw [ha] at e
  cases e
  exact ⟨by omega, by omega, by omega⟩
theorem Row.ne {w : World} {B b : Nat} {a : Option Addr} {k : Nat} {l : List Int} (h : Row w B a k l) (hb : b < B) : (Value.slice a l.length k).ownBlock ≠ some b := fun e => by
 have := (World.ownsRow.lt h b e).1
 omega
theorem memB_get {mem : List Int} (h : memB mem = true) (i : Nat) : 0 ≤ mem.getD i 0 ∧ mem.getD i 0 ≤ 65535 := by
 by_cases hi : i < mem.length
 ·unfold memB at h
  rw [List.all_eq_true] at h
  have := h mem[i] (List.getElem_mem hi)
  rw [show mem.getD i 0 = mem[i] from by simp [List.getD, List.getElem?_eq_getElem hi]]
  exact inB_true this
 ·rw [show mem.getD i 0 = 0 from by simp [List.getD, List.getElem?_eq_none (Nat.le_of_not_lt hi)]]
  omega
def LifeAt (p eb : Nat) (r : ResD) (q : AskD) (w : World) : Prop :=
 w.cell? ⟨p, 22, none⟩ = some (.slice (some ⟨eb, 0, none⟩) 1 1) ∧ (∀ j, w.cell? ⟨eb, j, none⟩ = (#[.int .i64 r.fate, .int .i64 r.r0, .int .i64 r.r1, .int .i64 r.r2, .int .i64 r.r3] : Array Value)[j]?) ∧
  w.cell? ⟨p, 15, none⟩ = some (.int .i64 q.kind) ∧ w.cell? ⟨p, 16, none⟩ = some (.int .i64 q.cell) ∧ w.cell? ⟨p, 17, none⟩ = some (.int .i64 q.frm) ∧ w.cell? ⟨p, 18, none⟩ = some (.int .i64 q.to)
theorem LifeR.at {E : Env} {H : Hd} {B p eb : Nat} {w : World} {s : LS} {r : ResD} (h : LifeR E H B p eb w s) (he : s.ends = [r]) (hH : H.ea = some ⟨eb, 0, none⟩) (hc : H.ec = 1) : LifeAt p eb r s.next w := by
 obtain ⟨la, lc, hb, _⟩ := h.life
 rcases h.ends with h0 | ⟨_, h1⟩
 ·rw [he] at h0; cases h0
 ·rw [he] at h1
  refine ⟨?_, fun j => ?_, ?_, ?_, ?_, ?_⟩
  ·rw [hb.cell]; simp [lifeArr, hH, hc, he]
  ·rw [h1.cell]; rfl
  ·rw [hb.cell]; rfl
  ·rw [hb.cell]; rfl
  ·rw [hb.cell]; rfl
  ·rw [hb.cell]; rfl
theorem below_set {n b i : Nat} {w w' : World} {v : Value} (h : Below n w w') (hb : n ≤ b) : Below n w (w'.setCell ⟨b, i, none⟩ v) := by
 have ho : Only b w' (w'.setCell ⟨b, i, none⟩ v) := (Only.refl _ _).set
 exact ⟨ho.os.trans h.os, ho.tape.trans h.tape, ho.output.trans h.output, Nat.le_trans h.size ho.size, fun k hk => (Below.heap_setCell _ _ _ _ (by simp; omega)).trans (h.block k hk)⟩
theorem JobsRep.mono {w : World} {n m : Nat} {ja : Option Addr} {jobs : List (Int × List InsD)} (h : JobsRep w n ja jobs) (hm : n ≤ m) : JobsRep w m ja jobs := by
 obtain ⟨js, h1, h2, h3⟩ := h
 refine ⟨js, h1, fun i hi => ?_, fun i hi => ⟨(h3 i hi).1, (h3 i hi).2.1, fun j hj => ?_⟩⟩
 ·obtain ⟨b, off, g1, g2, g3⟩ := h2 i hi
  exact ⟨b, off, g1, by omega, g3⟩
 ·obtain ⟨b, off, g1, g2, g3⟩ := (h3 i hi).2.2 j hj
  exact ⟨b, off, g1, by omega, g3⟩
theorem LifeAt.lt {p eb : Nat} {r : ResD} {q : AskD} {w : World} (h : LifeAt p eb r q w) : p < w.heap.size ∧ eb < w.heap.size := ⟨block_lt h.1, block_lt (h.2.1 0)⟩
end Go.Proofs.YtejadojilncbjabGreat
namespace Go.Proofs.YtejadojilncbjabGreat
set_option linter.unusedVariables false
theorem VOk.bd {c : Cfg} {k x v : Int} (hc : cfgB c = true) (hk : 0 ≤ k) (h : VOk c k x v) (x0 : 0 ≤ x) (x1 : x < total c) : -1 ≤ v ∧ v ≤ 8 * k + 65535 := by
 obtain ⟨⟨t1, t2⟩, _⟩ := cfgB_true hc
 rw [total_eq] at x1
 by_cases h0 : x = 0 ∨ x = 1
 ·have := h.cnt h0; omega
 by_cases h2 : x = 2
 ·have := h.gate h2; omega
 by_cases h3 : x < 3 + c.s
 ·have := h.ver (by omega) h3; omega
 by_cases h4 : x < 3 + 2 * c.s
 ·have := h.own (by omega) h4; omega
 by_cases h5 : x < 3 + 2 * c.s + c.t
 ·have := h.sta (by omega) h5
  obtain ⟨a, b, d⟩ := this
  omega
 ·have := h.wrd (by omega) (by rw [total_eq]; omega)
  omega
structure GOk (c : Cfg) (jobs : List (Int × List InsD)) (k : Int) (g : Gs) : Prop where
 m : CellsOk c k g.m
 th : ∀ t, 0 ≤ t → t < c.t → ThOk (cxOf c jobs t) k (g.th t)
theorem gstart_ok {c : Cfg} (hc : cfgB c = true) {mem : List Int} (hmw : (mem.length : Int) = c.wd) (hmb : memB mem = true) (jobs : List (Int × List InsD)) : GOk c jobs 0 (gStart c mem jobs) := by
 obtain ⟨⟨t1, t2⟩, ⟨w1, w2⟩, ⟨s1, s2⟩, _, _, _, ⟨f1, f2⟩⟩ := cfgB_true hc
 refine ⟨fun x x0 x1 => ?_, fun t t0 t1' => ?_⟩
 ·show VOk c 0 x (startVal c mem x)
  unfold startVal
  by_cases hx : wordBase c ≤ x
  ·rw [if_pos hx]
   have := memB_get hmb (x - wordBase c).toNat
   unfold wordBase at hx
   exact ⟨(fun e => by omega), (fun e => by omega), (fun _ e => by omega), (fun _ e => by omega), (fun _ e => by omega), fun _ _ => this⟩
  ·rw [if_neg hx]
   unfold wordBase at hx
   exact ⟨(fun e => by omega), (fun e => by omega), (fun _ e => by omega), (fun _ e => by omega), (fun _ e => ⟨by omega, by omega, by omega⟩), (fun e => by omega)⟩
 ·show ThOk _ 0 (hInit (cxOf c jobs t))
  unfold hInit
  refine to_ok ?_ (Int.le_refl _) 0
  refine ⟨⟨Int.le_refl _, Int.le_refl _⟩, ?_⟩
  exact new_ok (by show 0 ≤ c.f; omega) t1 _ ⟨Int.le_refl _, Int.le_refl _⟩
theorem acc_some {m : Int → Int} {q : AskD} (h : q.kind ≠ 0) : accBy m q = ⟨q.kind, q.cell, m q.cell, putV q (m q.cell)⟩ := if_neg h
theorem gstep_ok {c : Cfg} (hc : cfgB c = true) {jobs : List (Int × List InsD)} {k : Int} (hk : 0 ≤ k) {g : Gs} (G : GOk c jobs k g) (n : Int) (pk : PickD) : GOk c jobs (k + 1) (gStep c jobs g n pk).1 := by
 unfold gStep
 by_cases ht : 0 ≤ pk.thread ∧ pk.thread < c.t
 ·rw [if_pos ht]
  have A := G.th pk.thread ht.1 ht.2
  have hcK : cfgB (cxOf c jobs pk.thread).c = true := hc
  refine ⟨?_, fun t t0 t1 => ?_⟩
  ·simp only
   by_cases h0 : (hOut (cxOf c jobs pk.thread) (g.th pk.thread)).kind = 0
   ·rw [if_pos h0]
    exact fun x x0 x1 => (G.m x x0 x1).mono (by omega)
   ·rw [if_neg h0]
    obtain ⟨hcell, hput⟩ := ask_ok hcK ht hk A h0
    intro x x0 x1
    by_cases hx : x = (hOut (cxOf c jobs pk.thread) (g.th pk.thread)).cell
    ·rw [hx, wr_at]
     exact hput _ (G.m _ hcell.1 hcell.2)
    ·rw [wr_off hx]
     exact (G.m x x0 x1).mono (by omega)
  ·simp only
   by_cases htt : t = pk.thread
   ·rw [if_pos htt, htt]
    refine next_ok hcK ht hk A _ (fun h0 => ?_)
    obtain ⟨hcell, _⟩ := ask_ok hcK ht hk A h0
    show VOk c k _ (gAcc c jobs g pk.thread).seen
    unfold gAcc
    rw [acc_some h0]
    exact G.m _ hcell.1 hcell.2
   ·rw [if_neg htt]
    exact (G.th t t0 t1).mono (by omega)
 ·rw [if_neg ht]
  exact ⟨fun x x0 x1 => (G.m x x0 x1).mono (by omega), fun t t0 t1 => (G.th t t0 t1).mono (by omega)⟩
theorem gat_ok {c : Cfg} (hc : cfgB c = true) {mem : List Int} (hmw : (mem.length : Int) = c.wd) (hmb : memB mem = true) (jobs : List (Int × List InsD)) (ps : List PickD) : ∀ k : Nat, GOk c jobs k (gAt c mem jobs ps k)
 | 0 => gstart_ok hc hmw hmb jobs
 | k + 1 => by
  have := gstep_ok hc (by omega) (gat_ok hc hmw hmb jobs ps k) ((k : Int) + 1) (pickAt ps k)
  exact this
def Holds (h : Th) (s : Int) : Prop := match h.st with
 | .idle => False
 | .start => False
 | .fin _ => False
 | .fTake => False
 | .fStat => False
 | .wait _ => False
 | .rest _ => False
 | .cOpen _ r => s ∈ r
 | .cOwn _ r => s ∈ r
 | .free _ r => s ∈ r
 | .fOwn r => s ∈ r
 | _ => s ∈ h.x.held
def hGate (h : Th) : Bool := match h.st with
 | .cClock => true
 | .cVer _ _ => true
 | .cShut _ _ => true
 | .cStamp _ => true
 | .cLeave _ => true
 | .fGate => true
 | _ => false
def Shuts (h : Th) (s : Int) : Prop := match h.st with
 | .cShut _ r => s ∈ h.x.held ∧ s ∉ r
 | .cStamp _ => s ∈ h.x.held
 | .cLeave _ => s ∈ h.x.held
 | .cWord _ _ => s ∈ h.x.held
 | .cOpen _ r => s ∈ r
 | .cOwn _ r => s ∈ r.tail
 | _ => False
def hClk (h : Th) : Option Int := match h.st with
 | .cVer c _ => some c
 | .cShut c _ => some c
 | .cStamp c => some c
 | _ => none
def hStmp (h : Th) : Option Int := match h.st with
 | .cLeave c => some (c + 1)
 | .cWord c _ => some (c + 1)
 | .cOpen c _ => some (c + 1)
 | .cOwn c _ => some (c + 1)
 | _ => none
def Wh (K : Cx) (h : Th) : Prop := ∀ e ∈ h.x.writes, e.what.tmod K.c.s ∈ h.x.held
def exHeld (K : Cx) (h : Th) : Ex → Prop
 | .rd _ _ _ => True
 | .wr _ a => a.tmod K.c.s ∈ h.x.held
def Loc (K : Cx) (h : Th) : Prop := match h.st with
 | .idle => True
 | .start => True
 | .rHeld _ _ => Wh K h ∧ h.x.inGate = false
 | .rVer _ _ => Wh K h ∧ h.x.inGate = false
 | .rWord _ _ _ => Wh K h ∧ h.x.inGate = false
 | .rAgain _ _ _ _ => Wh K h ∧ h.x.inGate = false
 | .xClock k => (Wh K h ∧ h.x.inGate = false) ∧ exHeld K h k
 | .xVer k _ _ => (Wh K h ∧ h.x.inGate = false) ∧ exHeld K h k
 | .gStat _ _ => Wh K h ∧ h.x.inGate = false
 | .gOwn _ _ => Wh K h ∧ h.x.inGate = false
 | .gTheir _ _ _ => Wh K h ∧ h.x.inGate = false
 | .gMark _ _ _ _ => Wh K h ∧ h.x.inGate = false
 | .gVer _ a => (Wh K h ∧ h.x.inGate = false) ∧ a.tmod K.c.s ∈ h.x.held
 | .tTake => Wh K h ∧ h.x.inGate = false
 | .tShow => Wh K h ∧ h.x.inGate = false
 | .cStat => Wh K h ∧ h.x.inGate = false
 | .cGate => Wh K h ∧ h.x.inGate = false
 | .cClock => Wh K h ∧ h.x.inGate = true
 | .cVer _ _ => Wh K h ∧ h.x.inGate = true
 | .cShut _ r => Wh K h ∧ r.Nodup ∧ ∀ s ∈ r, s ∈ h.x.held
 | .cStamp _ => Wh K h
 | .cLeave _ => Wh K h
 | .cWord _ r => ∀ e ∈ r, e.what.tmod K.c.s ∈ h.x.held
 | .cOpen _ r => r.Nodup
 | .cOwn _ r => r.Nodup
 | .free _ r => r.Nodup
 | .fin _ => True
 | .fGate => True
 | .fOwn r => r.Nodup
 | .fTake => True
 | .fStat => True
 | .wait _ => True
 | .rest _ => True
structure Cont (K : Cx) (held : List Int) (gate : Bool) (h' : Th) : Prop where
 holds : ∀ s, Holds h' s ↔ s ∈ held
 gate : hGate h' = gate
 shuts : ∀ s, ¬ Shuts h' s
 clk : hClk h' = none
 stmp : hStmp h' = none
 loc : Loc K h'
theorem cont_free {K : Cx} {h : Th} (hn : h.x.held.Nodup) (e : Int) : Cont K h.x.held false (hFreeAt e h.x.held h) := by
 cases hh : h.x.held with
 | nil => exact ⟨fun s => by simp [hFreeAt, Holds], rfl, fun s => by simp [hFreeAt, Shuts], rfl, rfl, trivial⟩
 | cons q r =>
  refine ⟨fun s => by simp [hFreeAt, Holds], rfl, fun s => by simp [hFreeAt, Shuts], rfl, rfl, ?_⟩
  show (q :: r).Nodup
  rw [← hh]; exact hn
theorem cont_close {K : Cx} {h : Th} (hn : h.x.held.Nodup) (hw : Wh K h) (hg : h.x.inGate = false) (e : Int) : Cont K h.x.held false (hClose e h) := by
 unfold hClose
 split
 ·exact ⟨fun s => Iff.rfl, rfl, fun s => by simp [Shuts], rfl, rfl, hw, hg⟩
 ·exact cont_free hn e
theorem cont_count {K : Cx} {h : Th} : Cont K [] false (hCount K h) := by
 unfold hCount
 split
 ·exact ⟨fun s => by simp [Holds], rfl, fun s => by simp [Shuts], rfl, rfl, trivial⟩
 ·exact ⟨fun s => by simp [Holds], rfl, fun s => by simp [Shuts], rfl, rfl, trivial⟩
theorem cont_failown {K : Cx} {h : Th} {r : List Int} (hn : r.Nodup) : Cont K r false (hFailOwn K r h) := by
 cases r with
 | nil => exact cont_count
 | cons q r => exact ⟨fun s => by simp [hFailOwn, Holds], rfl, fun s => by simp [hFailOwn, Shuts], rfl, rfl, hn⟩
theorem cont_fail {K : Cx} {h : Th} (hn : h.x.held.Nodup) : Cont K h.x.held h.x.inGate (hFail K h) := by
 unfold hFail
 by_cases hg : h.x.inGate = true
 ·rw [if_pos hg, hg]
  exact ⟨fun s => Iff.rfl, rfl, fun s => by simp [Shuts], rfl, rfl, trivial⟩
 ·rw [if_neg hg, show h.x.inGate = false from by simpa using hg]
  exact cont_failown hn
structure Kept (K : Cx) (h h' : Th) : Prop where
 held : h'.x.held = h.x.held
 gate : h'.x.inGate = h.x.inGate
 wh : Wh K h'
theorem put_mem {l : List EntD} {a v : Int} {e : EntD} (h : e ∈ putEnt l a v) : e ∈ l ∨ e.what = a := by
 unfold putEnt at h
 split at h
 ·rcases List.mem_or_eq_of_mem_set h with h3 | h3
  ·exact Or.inl h3
  ·exact Or.inr (by rw [h3])
 ·rcases List.mem_append.1 h with h3 | h3
  ·exact Or.inl h3
  ·exact Or.inr (by rw [List.mem_singleton.1 h3])
theorem kept_put {K : Cx} {h : Th} {i : InsD} {a : Int} (hw : Wh K h) (ha : a.tmod K.c.s ∈ h.x.held) : Kept K h (hPut i a h) := by
 refine ⟨rfl, rfl, fun e he => ?_⟩
 rcases put_mem (show e ∈ putEnt h.x.writes a _ from he) with h1 | h1
 ·exact hw e h1
 ·rw [h1]; exact ha
theorem held_true {x : TS} {s : Int} (h : heldB x s = true) : s ∈ x.held := by
 unfold heldB at h
 rw [List.any_eq_true] at h
 obtain ⟨q, hq, e⟩ := h
 have : q = s := by simpa using e
 rw [← this]; exact hq
def Did1 (K : Cx) (h : Th) (t : Bool × Th) : Prop := (t.1 = true → Kept K h t.2) ∧ (t.1 = false → Cont K h.x.held false t.2)
theorem Did1.off {K : Cx} {h h' : Th} (A : Cont K h.x.held false h') : Did1 K h (false, h') := ⟨(fun e => nomatch e), fun _ => A⟩
theorem Did1.on {K : Cx} {h h' : Th} (A : Kept K h h') : Did1 K h (true, h') := ⟨fun _ => A, (fun e => nomatch e)⟩
theorem Did1.of {K : Cx} {h h1 : Th} {t : Bool × Th} (e1 : h1.x.held = h.x.held) (e2 : h1.x.inGate = h.x.inGate) (D : Did1 K h1 t) : Did1 K h t :=
 ⟨fun b => ⟨(D.1 b).held.trans e1, (D.1 b).gate.trans e2, (D.1 b).wh⟩, fun b => by rw [← e1]; exact D.2 b⟩
theorem did_read {K : Cx} {h : Th} {i : InsD} (hn : h.x.held.Nodup) (hw : Wh K h) (hg : h.x.inGate = false) : Did1 K h (hRead K i h) := by
 unfold hRead
 simp only
 split
 ·exact Did1.off (cont_close hn hw hg 3)
 ·cases he : entIdx h.x.writes (regOf h.x i.b) with
  | some j => exact Did1.on ⟨rfl, rfl, hw⟩
  | none =>
   simp only
   refine Did1.off ?_
   split
   ·exact ⟨fun s => Iff.rfl, rfl, fun s => by simp [Shuts], rfl, rfl, hw, hg⟩
   ·exact ⟨fun s => Iff.rfl, rfl, fun s => by simp [Shuts], rfl, rfl, hw, hg⟩
theorem did_write {K : Cx} {h : Th} {i : InsD} (hn : h.x.held.Nodup) (hw : Wh K h) (hg : h.x.inGate = false) : Did1 K h (hWrite K i h) := by
 unfold hWrite
 simp only
 split
 ·exact Did1.off (cont_close hn hw hg 3)
 ·split
  ·rename_i hh
   exact Did1.on (kept_put hw (held_true hh))
  ·exact Did1.off ⟨fun s => Iff.rfl, rfl, fun s => by simp [Shuts], rfl, rfl, hw, hg⟩
theorem did_step {K : Cx} {h : Th} (hn : h.x.held.Nodup) (hw : Wh K h) (hg : h.x.inGate = false) : Did1 K h (hStep K h) := by
 unfold hStep
 by_cases h1 : h.x.place = h.x.code.length
 ·rw [if_pos h1]; exact Did1.off (cont_close hn hw hg 1)
 rw [if_neg h1]
 by_cases h2 : (h.x.begun : Int) = K.c.f
 ·rw [if_pos h2]; exact Did1.off (cont_close hn hw hg 4)
 rw [if_neg h2]
 simp only
 generalize insAt h.x.code h.x.place = i at *
 by_cases h3 : formedB i h.x.code.length = false
 ·rw [if_pos h3]; exact Did1.off (cont_close (h := { h with x := { h.x with begun := h.x.begun + 1 } }) hn hw hg 3)
 rw [if_neg h3]
 by_cases o0 : i.op = 0
 ·rw [if_pos o0]; exact Did1.off (cont_close (h := { h with x := { h.x with begun := h.x.begun + 1, place := h.x.place + 1 } }) hn hw hg 1)
 rw [if_neg o0]
 by_cases o1 : i.op = 1
 ·rw [if_pos o1]; exact Did1.off (cont_close (h := { h with x := { h.x with begun := h.x.begun + 1, place := h.x.place + 1 } }) hn hw hg 2)
 rw [if_neg o1]
 by_cases o2 : i.op = 2
 ·rw [if_pos o2]; exact Did1.on ⟨rfl, rfl, hw⟩
 rw [if_neg o2]
 by_cases o3 : i.op = 3
 ·rw [if_pos o3]; exact Did1.on ⟨rfl, rfl, hw⟩
 rw [if_neg o3]
 by_cases o4 : i.op = 4
 ·rw [if_pos o4]; exact Did1.on ⟨rfl, rfl, hw⟩
 rw [if_neg o4]
 by_cases o5 : i.op = 5
 ·rw [if_pos o5]; exact Did1.on ⟨rfl, rfl, hw⟩
 rw [if_neg o5]
 by_cases o6 : i.op = 6
 ·rw [if_pos o6]
  split
  ·exact Did1.on ⟨rfl, rfl, hw⟩
  ·exact Did1.on ⟨rfl, rfl, hw⟩
 rw [if_neg o6]
 by_cases o7 : i.op = 7
 ·rw [if_pos o7]; exact Did1.of (h1 := { h with x := { h.x with begun := h.x.begun + 1, place := h.x.place + 1 } }) rfl rfl (did_read hn hw hg)
 ·rw [if_neg o7]; exact Did1.of (h1 := { h with x := { h.x with begun := h.x.begun + 1, place := h.x.place + 1 } }) rfl rfl (did_write hn hw hg)
theorem cont_go {K : Cx} : ∀ {h : Th}, (h.x.begun : Int) ≤ K.c.f → h.x.held.Nodup → Wh K h → h.x.inGate = false → Cont K h.x.held false (hGo K h) := by
 have H : ∀ (n : Nat) (h : Th), n = K.c.f.toNat - h.x.begun → (h.x.begun : Int) ≤ K.c.f → h.x.held.Nodup → Wh K h → h.x.inGate = false → Cont K h.x.held false (hGo K h) := by
  intro n
  induction n with
  | zero =>
   intro h hnn hb hn hw hg
   rw [hGo_eq K h hb]
   by_cases hs : (hStep K h).1 = true
   ·have := hStep_begun K h hs
    omega
   ·rw [if_neg hs]
    exact (did_step hn hw hg).2 (by simpa using hs)
  | succ n ih =>
   intro h hnn hb hn hw hg
   rw [hGo_eq K h hb]
   by_cases hs : (hStep K h).1 = true
   ·rw [if_pos hs]
    have hbg := hStep_begun K h hs
    have k := (did_step hn hw hg).1 hs
    have := ih _ (by omega) (by omega) (by rw [k.held]; exact hn) k.wh (k.gate.trans hg)
    rw [k.held] at this
    exact this
   ·rw [if_neg hs]
    exact (did_step hn hw hg).2 (by simpa using hs)
 exact fun {h} hb hn hw hg => H _ h rfl hb hn hw hg
theorem cont_got {K : Cx} {h : Th} {i : InsD} {a v : Int} (hb : (h.x.begun : Int) ≤ K.c.f) (hn : h.x.held.Nodup) (hw : Wh K h) (hg : h.x.inGate = false) : Cont K h.x.held false (hGot K i a v h) :=
 cont_go (h := ({ h with x := setReg h.x i.a v } : Th).noted 7 a v) hb hn hw hg
theorem cont_wrote {K : Cx} {h : Th} {i : InsD} {a : Int} (hb : (h.x.begun : Int) ≤ K.c.f) (hn : h.x.held.Nodup) (hw : Wh K h) (hg : h.x.inGate = false) (ha : a.tmod K.c.s ∈ h.x.held) : Cont K h.x.held false (hWrote K i a h) := by
 have k := kept_put (i := i) hw ha
 unfold hWrote
 split
 ·exact cont_go (h := hPut i a h) hb hn k.wh hg
 ·exact ⟨fun s => Iff.rfl, rfl, fun s => by simp [Shuts], rfl, rfl, k.wh, hg⟩
theorem cont_exdone {K : Cx} {h : Th} {e : Ex} {c : Int} (hb : (h.x.begun : Int) ≤ K.c.f) (hn : h.x.held.Nodup) (hw : Wh K h) (hg : h.x.inGate = false) (he : exHeld K h e) : Cont K h.x.held false (hExDone K e c h) := by
 cases e with
 | rd i a v => exact cont_got (h := { h with list := modLast h.list (fun t => { t with valid := c }), x := { h.x with valid := c } }) hb hn hw hg
 | wr i a => exact cont_wrote (h := { h with list := modLast h.list (fun t => { t with valid := c }), x := { h.x with valid := c } }) hb hn hw hg he
theorem cont_exstill {K : Cx} {h : Th} {e : Ex} {c : Int} (hb : (h.x.begun : Int) ≤ K.c.f) (hn : h.x.held.Nodup) (hw : Wh K h) (hg : h.x.inGate = false) (he : exHeld K h e) (r : List EntD) : Cont K h.x.held false (hExStill K e c r h) := by
 cases r with
 | nil => exact cont_exdone hb hn hw hg he
 | cons q r => exact ⟨fun s => Iff.rfl, rfl, fun s => by simp [hExStill, Shuts], rfl, rfl, ⟨hw, hg⟩, he⟩
end Go.Proofs.YtejadojilncbjabGreat
