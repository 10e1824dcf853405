import Derived.Test.YtejadojilncbjabGreatD01
import Derived.Test.YtejadojilncbjabGreatD05
import Derived.Test.YtejadojilncbjabGreatD06
namespace Go.Proofs.YtejadojilncbjabGreat
set_option linter.unusedVariables false
structure Gs where
 m : Int → Int
 th : Int → Th
def cxOf (c : Cfg) (jobs : List (Int × List InsD)) (t : Int) : Cx := ⟨c, t, jobs⟩
def gStart (c : Cfg) (mem : List Int) (jobs : List (Int × List InsD)) : Gs := ⟨startVal c mem, fun t => hInit (cxOf c jobs t)⟩
def accBy (m : Int → Int) (q : AskD) : AccD := if q.kind = 0 then noAcc else ⟨q.kind, q.cell, m q.cell, putV q (m q.cell)⟩
def gAcc (c : Cfg) (jobs : List (Int × List InsD)) (g : Gs) (t : Int) : AccD := accBy g.m (hOut (cxOf c jobs t) (g.th t))
def gStep (c : Cfg) (jobs : List (Int × List InsD)) (g : Gs) (n : Int) (pk : PickD) : Gs × AccD :=
 if 0 ≤ pk.thread ∧ pk.thread < c.t then
  (⟨if (hOut (cxOf c jobs pk.thread) (g.th pk.thread)).kind = 0 then g.m else wr g.m (hOut (cxOf c jobs pk.thread) (g.th pk.thread)),
         fun t => if t = pk.thread then hNext (cxOf c jobs pk.thread) (g.th pk.thread) ⟨(gAcc c jobs g pk.thread).seen, pk.draw, n⟩ else g.th t⟩, gAcc c jobs g pk.thread)
 else (g, noAcc)
def gAt (c : Cfg) (mem : List Int) (jobs : List (Int × List InsD)) (ps : List PickD) : Nat → Gs
 | 0 => gStart c mem jobs
 | k + 1 => (gStep c jobs (gAt c mem jobs ps k) ((k : Int) + 1) (pickAt ps k)).1
def total (c : Cfg) : Int := 3 + 2 * c.s + c.t + c.wd
def SOk (c : Cfg) (k v : Int) : Prop := 0 ≤ v ∧ v % 8 ≤ c.t ∧ v / 8 ≤ k
structure VOk (c : Cfg) (k x v : Int) : Prop where
 cnt : x = 0 ∨ x = 1 → 0 ≤ v ∧ v ≤ k
 gate : x = 2 → 0 ≤ v ∧ v ≤ c.t
 ver : 3 ≤ x → x < 3 + c.s → -1 ≤ v ∧ v ≤ k
 own : 3 + c.s ≤ x → x < 3 + 2 * c.s → 0 ≤ v ∧ v ≤ c.t
 sta : 3 + 2 * c.s ≤ x → x < 3 + 2 * c.s + c.t → SOk c k v
 wrd : 3 + 2 * c.s + c.t ≤ x → x < total c → 0 ≤ v ∧ v ≤ 65535
def CellsOk (c : Cfg) (k : Int) (m : Int → Int) : Prop := ∀ x, 0 ≤ x → x < total c → VOk c k x (m x)
theorem VOk.mono {c : Cfg} {k k' x v : Int} (h : VOk c k x v) (hk : k ≤ k') : VOk c k' x v :=
 ⟨fun e => ⟨(h.cnt e).1, Int.le_trans (h.cnt e).2 hk⟩, h.gate, fun a b => ⟨(h.ver a b).1, Int.le_trans (h.ver a b).2 hk⟩, h.own, fun a b => ⟨(h.sta a b).1, (h.sta a b).2.1, Int.le_trans (h.sta a b).2.2 hk⟩, h.wrd⟩
structure XOk (K : Cx) (k : Int) (x : TS) : Prop where
 four : x.regs.length = 4
 rg : ∀ r ∈ x.regs, 0 ≤ r ∧ r ≤ 65535
 wr : ∀ e ∈ x.writes, 0 ≤ e.what ∧ e.what < K.c.wd ∧ 0 ≤ e.val ∧ e.val ≤ 65535
 rd : ∀ e ∈ x.reads, 0 ≤ e.what ∧ e.what < K.c.s ∧ 0 ≤ e.val ∧ e.val ≤ k
 hd : ∀ s ∈ x.held, 0 ≤ s ∧ s < K.c.s
 wn : (x.writes.map (·.what)).Nodup
 rn : (x.reads.map (·.what)).Nodup
 hn : x.held.Nodup
 valid : 0 ≤ x.valid ∧ x.valid ≤ k
 way : -1 ≤ x.way ∧ x.way < K.c.t
 plc : x.place ≤ x.code.length
 bg : (x.begun : Int) ≤ K.c.f
theorem XOk.mono {K : Cx} {k k' : Int} {x : TS} (h : XOk K k x) (hk : k ≤ k') : XOk K k' x :=
 ⟨h.four, h.rg, h.wr, fun e he => ⟨(h.rd e he).1, (h.rd e he).2.1, (h.rd e he).2.2.1, Int.le_trans (h.rd e he).2.2.2 hk⟩, h.hd, h.wn, h.rn, h.hn, ⟨h.valid.1, Int.le_trans h.valid.2 hk⟩, h.way, h.plc, h.bg⟩
def AOk (K : Cx) (i : InsD) (a : Int) : Prop := 0 ≤ a ∧ a < K.c.wd ∧ 0 ≤ i.a ∧ i.a ≤ 3 ∧ 0 ≤ i.b ∧ i.b ≤ 3
def ExOk (K : Cx) : Ex → Prop
 | .rd i a v => AOk K i a ∧ 0 ≤ v ∧ v ≤ 65535
 | .wr i a => AOk K i a
def RdOk (K : Cx) (r : List EntD) : Prop := r ≠ [] ∧ ∀ e ∈ r, 0 ≤ e.what ∧ e.what < K.c.s
def HdOk (K : Cx) (r : List Int) : Prop := r ≠ [] ∧ ∀ s ∈ r, 0 ≤ s ∧ s < K.c.s
def WrOk (K : Cx) (r : List EntD) : Prop := r ≠ [] ∧ ∀ e ∈ r, 0 ≤ e.what ∧ e.what < K.c.wd ∧ 0 ≤ e.val ∧ e.val ≤ 65535
def StepOk (K : Cx) (k : Int) (h : Th) : Prop := match h.st with
 | .idle => True
 | .start => True
 | .rHeld i a => AOk K i a
 | .rVer i a => AOk K i a
 | .rWord i a one => AOk K i a ∧ 0 ≤ one ∧ one ≤ k
 | .rAgain i a one v => AOk K i a ∧ (0 ≤ one ∧ one ≤ k) ∧ 0 ≤ v ∧ v ≤ 65535
 | .xClock e => ExOk K e
 | .xVer e c r => ExOk K e ∧ (0 ≤ c ∧ c ≤ k) ∧ RdOk K r
 | .gStat i a => AOk K i a ∧ heldB h.x (a.tmod K.c.s) = false
 | .gOwn i a => AOk K i a ∧ heldB h.x (a.tmod K.c.s) = false
 | .gTheir i a u => (AOk K i a ∧ heldB h.x (a.tmod K.c.s) = false) ∧ 1 ≤ u ∧ u ≤ K.c.t
 | .gMark i a u th => (AOk K i a ∧ heldB h.x (a.tmod K.c.s) = false) ∧ (1 ≤ u ∧ u ≤ K.c.t) ∧ SOk K.c k th ∧ th % 8 = 0
 | .gVer i a => AOk K i a
 | .tTake => True
 | .tShow => True
 | .cStat => True
 | .cGate => True
 | .cClock => True
 | .cVer c r => (0 ≤ c ∧ c ≤ k) ∧ RdOk K r
 | .cShut c r => (0 ≤ c ∧ c ≤ k) ∧ HdOk K r
 | .cStamp c => 0 ≤ c ∧ c ≤ k
 | .cLeave c => 0 ≤ c ∧ c ≤ k
 | .cWord c r => (0 ≤ c ∧ c ≤ k) ∧ WrOk K r
 | .cOpen c r => (0 ≤ c ∧ c ≤ k) ∧ HdOk K r
 | .cOwn c r => (0 ≤ c ∧ c ≤ k) ∧ HdOk K r
 | .free e r => HdOk K r
 | .fin e => True
 | .fGate => True
 | .fOwn r => HdOk K r
 | .fTake => True
 | .fStat => True
 | .wait win => 0 ≤ win ∧ win < K.c.t
 | .rest n => n ≠ 0
structure ThOk (K : Cx) (k : Int) (h : Th) : Prop where
 rank : 0 ≤ h.rank ∧ h.rank ≤ k
 x : XOk K k h.x
 step : StepOk K k h
theorem ThOk.mono {K : Cx} {k k' : Int} {h : Th} (A : ThOk K k h) (hk : k ≤ k') : ThOk K k' h := by
 refine ⟨⟨A.rank.1, Int.le_trans A.rank.2 hk⟩, A.x.mono hk, ?_⟩
 have hs := A.step
 unfold StepOk at hs ⊢
 cases hst : h.st <;> rw [hst] at hs <;> simp only at hs ⊢ <;> first
  | exact hs
  | exact ⟨hs.1, hs.2.1, Int.le_trans hs.2.2 hk⟩
  | exact ⟨hs.1, ⟨hs.2.1.1, Int.le_trans hs.2.1.2 hk⟩, hs.2.2⟩
  | exact ⟨hs.1, hs.2.1, ⟨hs.2.2.1.1, hs.2.2.1.2.1, Int.le_trans hs.2.2.1.2.2 hk⟩, hs.2.2.2⟩
  | exact ⟨⟨hs.1.1, Int.le_trans hs.1.2 hk⟩, hs.2⟩
  | exact ⟨hs.1, Int.le_trans hs.2 hk⟩
structure Onn (K : Cx) (k : Int) (h : Th) : Prop where
 rank : 0 ≤ h.rank ∧ h.rank ≤ k
 x : XOk K k h.x
theorem Onn.st {K : Cx} {k : Int} {h : Th} (A : Onn K k h) (s : St) (hs : StepOk K k { h with st := s }) : ThOk K k { h with st := s } := ⟨A.rank, A.x, hs⟩
theorem ThOk.on {K : Cx} {k : Int} {h : Th} (A : ThOk K k h) : Onn K k h := ⟨A.rank, A.x⟩
theorem free_ok {K : Cx} {k : Int} {h : Th} (A : Onn K k h) (e : Int) (r : List Int) (hr : ∀ s ∈ r, 0 ≤ s ∧ s < K.c.s) : ThOk K k (hFreeAt e r h) := by
 cases r with
 | nil => exact A.st _ trivial
 | cons q r => exact A.st _ ⟨by simp, hr⟩
theorem close_ok {K : Cx} {k : Int} {h : Th} (A : Onn K k h) (e : Int) : ThOk K k (hClose e h) := by
 unfold hClose
 split
 ·exact A.st _ trivial
 ·exact free_ok A e _ A.x.hd
theorem count_ok {K : Cx} {k : Int} {h : Th} (A : Onn K k h) : ThOk K k (hCount K h) := by
 unfold hCount
 split
 ·exact ⟨A.rank, A.x, trivial⟩
 ·exact ⟨A.rank, A.x, trivial⟩
theorem failown_ok {K : Cx} {k : Int} {h : Th} (A : Onn K k h) (r : List Int) (hr : ∀ s ∈ r, 0 ≤ s ∧ s < K.c.s) : ThOk K k (hFailOwn K r h) := by
 cases r with
 | nil => exact count_ok A
 | cons q r => exact A.st _ ⟨by simp, hr⟩
theorem fail_ok {K : Cx} {k : Int} {h : Th} (A : Onn K k h) : ThOk K k (hFail K h) := by
 unfold hFail
 split
 ·exact A.st _ trivial
 ·exact failown_ok A _ A.x.hd
theorem reg_ok {K : Cx} {k : Int} {x : TS} (h : XOk K k x) (i : Int) : 0 ≤ regOf x i ∧ regOf x i ≤ 65535 := by
 unfold regOf
 by_cases hi : i.toNat < x.regs.length
 ·have : x.regs.getD i.toNat 0 ∈ x.regs := by
   rw [show x.regs.getD i.toNat 0 = x.regs[i.toNat] from by simp [List.getD, List.getElem?_eq_getElem hi]]
   exact List.getElem_mem hi
  exact h.rg _ this
 ·have : x.regs.getD i.toNat 0 = 0 := by
   simp [List.getD, List.getElem?_eq_none (show x.regs.length ≤ i.toNat by omega)]
  rw [this]
  omega
theorem XOk.setReg {K : Cx} {k : Int} {x : TS} (h : XOk K k x) (i v : Int) (h1 : 0 ≤ v) (h2 : v ≤ 65535) : XOk K k (setReg x i v) :=
 ⟨by simp [Go.Proofs.YtejadojilncbjabGreat.setReg, h.four], fun r hr => by
     rcases List.mem_or_eq_of_mem_set hr with h3 | h3
     ·exact h.rg r h3
     ·rw [h3]; exact ⟨h1, h2⟩, h.wr, h.rd, h.hd, h.wn, h.rn, h.hn, h.valid, h.way, h.plc, h.bg⟩
theorem entOut {l : List EntD} {a : Int} (h : entIdx l a = none) : a ∉ l.map (·.what) := by
 unfold entIdx at h
 rw [List.findIdx?_eq_none_iff] at h
 intro hm
 obtain ⟨e, he, h2⟩ := List.mem_map.1 hm
 have := h e he
 simp [h2] at this
theorem entIn {l : List EntD} {a : Int} {k : Nat} (h : entIdx l a = some k) : k < l.length ∧ (l.getD k ⟨0, 0⟩).what = a ∧ l.getD k ⟨0, 0⟩ ∈ l := by
 unfold entIdx at h
 rw [List.findIdx?_eq_some_iff_getElem] at h
 obtain ⟨hk, h1, _⟩ := h
 have e : l.getD k ⟨0, 0⟩ = l[k] := by simp [List.getD, List.getElem?_eq_getElem hk]
 rw [e]
 exact ⟨hk, by simpa using h1, List.getElem_mem hk⟩
theorem put_map {l : List EntD} {a v : Int} : (putEnt l a v).map (·.what) = if a ∈ l.map (·.what) then l.map (·.what) else l.map (·.what) ++ [a] := by
 unfold putEnt
 cases hk : entIdx l a with
 | none =>
  rw [if_neg (entOut hk)]
  simp
 | some k =>
  obtain ⟨h1, h2, h3⟩ := entIn hk
  rw [if_pos (List.mem_map.2 ⟨_, h3, h2⟩)]
  simp only
  rw [List.map_set]
  apply List.ext_getElem?
  intro j
  rw [List.getElem?_set]
  split
  ·rename_i hj
   subst hj
   have e : l.getD k ⟨0, 0⟩ = l[k] := by simp [List.getD, List.getElem?_eq_getElem h1]
   rw [e] at h2
   simp [h1, h2]
  ·rfl
theorem XOk.put {K : Cx} {k : Int} {x : TS} (h : XOk K k x) (a v : Int) (a0 : 0 ≤ a) (a1 : a < K.c.wd) (h1 : 0 ≤ v) (h2 : v ≤ 65535) : XOk K k { x with writes := putEnt x.writes a v } := by
 refine ⟨h.four, h.rg, fun e he => ?_, h.rd, h.hd, ?_, h.rn, h.hn, h.valid, h.way, h.plc, h.bg⟩
 ·change e ∈ putEnt x.writes a v at he
  unfold putEnt at he
  split at he
  ·rcases List.mem_or_eq_of_mem_set he with h3 | h3
   ·exact h.wr e h3
   ·rw [h3]; exact ⟨a0, a1, h1, h2⟩
  ·rcases List.mem_append.1 he with h3 | h3
   ·exact h.wr e h3
   ·rw [List.mem_singleton.1 h3]; exact ⟨a0, a1, h1, h2⟩
 ·show ((putEnt x.writes a v).map (·.what)).Nodup
  rw [put_map]
  split
  ·exact h.wn
  ·rename_i hn
   rw [List.nodup_append]
   exact ⟨h.wn, by simp, fun p hp q hq => by rw [List.mem_singleton.1 hq]; intro e; rw [e] at hp; exact hn hp⟩
theorem XOk.at {K : Cx} {k : Int} {x : TS} (h : XOk K k x) (b q : Nat) (hb : (b : Int) ≤ K.c.f) (hq : q ≤ x.code.length) : XOk K k { x with begun := b, place := q } := ⟨h.four, h.rg, h.wr, h.rd, h.hd, h.wn, h.rn, h.hn, h.valid, h.way, hq, hb⟩
theorem Onn.noted {K : Cx} {k : Int} {h : Th} (A : Onn K k h) (op a v : Int) : Onn K k (h.noted op a v) := ⟨A.rank, A.x⟩
theorem Onn.setx {K : Cx} {k : Int} {h : Th} (A : Onn K k h) (y : TS) (hy : XOk K k y) : Onn K k { h with x := y } := ⟨A.rank, hy⟩
theorem inB2 {v lo hi : Int} (h : inB v lo hi = true) : lo ≤ v ∧ v ≤ hi := inB_true h
theorem tmodP {a s : Int} (h1 : 1 ≤ s) (h0 : 0 ≤ a) : 0 ≤ a.tmod s ∧ a.tmod s < s := ⟨Int.tmod_nonneg _ h0, Int.tmod_lt_of_pos _ (by omega)⟩
theorem formed_regs {i : InsD} {n : Int} (h : formedB i n = true) (h0 : i.op ≠ 0) (h1 : i.op ≠ 1) (h2 : i.op ≠ 2) (h5 : i.op ≠ 5) : 0 ≤ i.a ∧ i.a ≤ 3 ∧ 0 ≤ i.b ∧ i.b ≤ 3 := by
 unfold formedB at h
 rw [if_neg (by rintro (e | e); · exact h0 e
                ·exact h1 e), if_neg h2] at h
 by_cases h3 : i.op = 3 ∨ i.op = 4
 ·rw [if_pos h3] at h
  simp only [Bool.and_eq_true] at h
  have a := inB2 h.1.1
  have b := inB2 h.1.2
  omega
 ·rw [if_neg h3, if_neg h5] at h
  by_cases h6 : i.op = 6
  ·rw [if_pos h6] at h
   simp only [Bool.and_eq_true] at h
   have a := inB2 h.1.1
   have b := inB2 h.1.2
   omega
  ·rw [if_neg h6] at h
   by_cases h7 : i.op = 7 ∨ i.op = 8
   ·rw [if_pos h7] at h
    simp only [Bool.and_eq_true] at h
    have a := inB2 h.1
    have b := inB2 h.2
    omega
   ·rw [if_neg h7] at h; cases h
def On2 (K : Cx) (k : Int) (t : Bool × Th) : Prop := (t.1 = true → Onn K k t.2) ∧ (t.1 = false → ThOk K k t.2)
theorem On2.off {K : Cx} {k : Int} {h : Th} (A : ThOk K k h) : On2 K k (false, h) := ⟨(fun e => nomatch e), fun _ => A⟩
theorem On2.on {K : Cx} {k : Int} {h : Th} (A : Onn K k h) : On2 K k (true, h) := ⟨fun _ => A, (fun e => nomatch e)⟩
theorem read_ok {K : Cx} {k : Int} {h : Th} {i : InsD} (A : Onn K k h) (hi : 0 ≤ i.a ∧ i.a ≤ 3 ∧ 0 ≤ i.b ∧ i.b ≤ 3) : On2 K k (hRead K i h) := by
 have hr := reg_ok A.x i.b
 unfold hRead
 simp only
 split
 ·exact On2.off (close_ok A 3)
 ·rename_i hw
  cases he : entIdx h.x.writes (regOf h.x i.b) with
  | some j =>
   have hm := A.x.wr _ (entIn he).2.2
   exact On2.on ((A.setx _ (A.x.setReg _ _ hm.2.2.1 hm.2.2.2)).noted _ _ _)
  | none =>
   simp only
   refine On2.off ?_
   split
   ·exact A.st _ ⟨hr.1, by omega, hi⟩
   ·exact A.st _ ⟨hr.1, by omega, hi⟩
theorem put_ok {K : Cx} {k : Int} {h : Th} {i : InsD} {a : Int} (A : Onn K k h) (a0 : 0 ≤ a) (a1 : a < K.c.wd) : Onn K k (hPut i a h) := by
 have hr := reg_ok A.x i.b
 exact (A.setx _ (A.x.put a _ a0 a1 hr.1 hr.2)).noted _ _ _
theorem write_ok {K : Cx} {k : Int} {h : Th} {i : InsD} (A : Onn K k h) (hi : 0 ≤ i.a ∧ i.a ≤ 3 ∧ 0 ≤ i.b ∧ i.b ≤ 3) : On2 K k (hWrite K i h) := by
 have hr := reg_ok A.x i.a
 unfold hWrite
 simp only
 split
 ·exact On2.off (close_ok A 3)
 ·rename_i hw
  split
  ·exact On2.on (put_ok A hr.1 (by omega))
  ·rename_i hh
   exact On2.off (A.st _ ⟨⟨hr.1, by omega, hi⟩, by simpa using hh⟩)
theorem step_ok {K : Cx} {k : Int} {h : Th} (A : Onn K k h) : On2 K k (hStep K h) := by
 have hX := A.x
 unfold hStep
 by_cases h1 : h.x.place = h.x.code.length
 ·rw [if_pos h1]; exact On2.off (close_ok A 1)
 rw [if_neg h1]
 by_cases h2 : (h.x.begun : Int) = K.c.f
 ·rw [if_pos h2]; exact On2.off (close_ok A 4)
 rw [if_neg h2]
 have hb1 : ((h.x.begun + 1 : Nat) : Int) ≤ K.c.f := by have := hX.bg; omega
 have hp := hX.plc
 have X1 : XOk K k { h.x with begun := h.x.begun + 1 } := hX.at (h.x.begun + 1) h.x.place hb1 hp
 have X2 : XOk K k { h.x with begun := h.x.begun + 1, place := h.x.place + 1 } := hX.at (h.x.begun + 1) (h.x.place + 1) hb1 (by omega)
 simp only
 generalize insAt h.x.code h.x.place = i at *
 by_cases h3 : formedB i h.x.code.length = false
 ·rw [if_pos h3]; exact On2.off (close_ok (A.setx _ X1) 3)
 rw [if_neg h3]
 have hfm : formedB i h.x.code.length = true := by simpa using h3
 by_cases o0 : i.op = 0
 ·rw [if_pos o0]; exact On2.off (close_ok (A.setx _ X2) 1)
 rw [if_neg o0]
 by_cases o1 : i.op = 1
 ·rw [if_pos o1]; exact On2.off (close_ok (A.setx _ X2) 2)
 rw [if_neg o1]
 by_cases o2 : i.op = 2
 ·rw [if_pos o2]
  have hb : 0 ≤ i.b ∧ i.b ≤ 65535 := by
   unfold formedB at hfm
   rw [if_neg (by rintro (e | e); · exact o0 e
                  ·exact o1 e), if_pos o2] at hfm
   simp only [Bool.and_eq_true] at hfm
   exact inB2 hfm.2
  exact On2.on (A.setx _ (X2.setReg _ _ hb.1 hb.2))
 rw [if_neg o2]
 have ra := reg_ok X2 i.a
 have rb := reg_ok X2 i.b
 have rc := reg_ok X2 i.c
 generalize hx2 : ({ h.x with begun := h.x.begun + 1, place := h.x.place + 1 } : TS) = x2 at *
 by_cases o3 : i.op = 3
 ·rw [if_pos o3]
  have := tmodP (a := regOf x2 i.b + regOf x2 i.c) (s := 65536) (by omega) (by omega)
  exact On2.on (A.setx _ (X2.setReg _ _ this.1 (by omega)))
 rw [if_neg o3]
 by_cases o4 : i.op = 4
 ·rw [if_pos o4]
  have := tmodP (a := regOf x2 i.b + 65535 + 1 - regOf x2 i.c) (s := 65536) (by omega) (by omega)
  exact On2.on (A.setx _ (X2.setReg _ _ this.1 (by omega)))
 rw [if_neg o4]
 have hjump : ∀ (hc : 0 ≤ i.c ∧ i.c ≤ (h.x.code.length : Int)), XOk K k { h.x with begun := h.x.begun + 1, place := i.c.toNat } := fun hc => by
  exact hX.at (h.x.begun + 1) i.c.toNat hb1 (by omega)
 by_cases o5 : i.op = 5
 ·rw [if_pos o5]
  have hc : 0 ≤ i.c ∧ i.c ≤ (h.x.code.length : Int) := by
   unfold formedB at hfm
   rw [if_neg (by omega), if_neg o2, if_neg (by omega), if_pos o5] at hfm
   exact inB2 hfm
  exact On2.on (A.setx _ (hjump hc))
 rw [if_neg o5]
 by_cases o6 : i.op = 6
 ·rw [if_pos o6]
  have hc : 0 ≤ i.c ∧ i.c ≤ (h.x.code.length : Int) := by
   unfold formedB at hfm
   rw [if_neg (by omega), if_neg o2, if_neg (by omega), if_neg o5, if_pos o6] at hfm
   simp only [Bool.and_eq_true] at hfm
   exact inB2 hfm.2
  refine On2.on (A.setx _ ?_)
  split
  ·exact hjump hc
  ·exact X2
 rw [if_neg o6]
 have hi := formed_regs hfm o0 o1 o2 o5
 by_cases o7 : i.op = 7
 ·rw [if_pos o7]
  exact read_ok (A.setx _ X2) hi
 ·rw [if_neg o7]
  exact write_ok (A.setx _ X2) hi
theorem go_ok {K : Cx} {k : Int} : ∀ {h : Th}, Onn K k h → ThOk K k (hGo K h) := by
 have H : ∀ (n : Nat) (h : Th), n = K.c.f.toNat - h.x.begun → Onn K k h → ThOk K k (hGo K h) := by
  intro n
  induction n with
  | zero =>
   intro h hn A
   rw [hGo_eq K h A.x.bg]
   by_cases hs : (hStep K h).1 = true
   ·have := hStep_begun K h hs
    have := A.x.bg
    omega
   ·rw [if_neg hs]
    exact (step_ok A).2 (by simpa using hs)
  | succ n ih =>
   intro h hn A
   rw [hGo_eq K h A.x.bg]
   by_cases hs : (hStep K h).1 = true
   ·rw [if_pos hs]
    have := hStep_begun K h hs
    exact ih _ (by omega) ((step_ok A).1 hs)
   ·rw [if_neg hs]
    exact (step_ok A).2 (by simpa using hs)
 exact fun {h} A => H _ h rfl A
theorem got_ok {K : Cx} {k : Int} {h : Th} {i : InsD} {a v : Int} (A : Onn K k h) (v0 : 0 ≤ v) (v1 : v ≤ 65535) : ThOk K k (hGot K i a v h) := go_ok ((A.setx _ (A.x.setReg _ _ v0 v1)).noted _ _ _)
theorem wrote_ok {K : Cx} {k : Int} {h : Th} {i : InsD} {a : Int} (A : Onn K k h) (ha : AOk K i a) : ThOk K k (hWrote K i a h) := by
 have A1 := put_ok (i := i) A ha.1 ha.2.1
 unfold hWrote
 split
 ·exact go_ok A1
 ·exact A1.st _ trivial
theorem exdone_ok {K : Cx} {k : Int} {h : Th} {e : Ex} {c : Int} (A : Onn K k h) (he : ExOk K e) (hc : 0 ≤ c ∧ c ≤ k) : ThOk K k (hExDone K e c h) := by
 have hx := A.x
 have A1 : Onn K k { h with list := modLast h.list (fun t => { t with valid := c }), x := { h.x with valid := c } } := ⟨A.rank, ⟨hx.four, hx.rg, hx.wr, hx.rd, hx.hd, hx.wn, hx.rn, hx.hn, hc, hx.way, hx.plc, hx.bg⟩⟩
 cases e with
 | rd i a v => exact got_ok A1 he.2.1 he.2.2
 | wr i a => exact wrote_ok A1 he
theorem exstill_ok {K : Cx} {k : Int} {h : Th} {e : Ex} {c : Int} (A : Onn K k h) (he : ExOk K e) (hc : 0 ≤ c ∧ c ≤ k) (r : List EntD) (hr : ∀ e ∈ r, 0 ≤ e.what ∧ e.what < K.c.s) : ThOk K k (hExStill K e c r h) := by
 cases r with
 | nil => exact exdone_ok A he hc
 | cons q r => exact A.st _ ⟨he, hc, by simp, hr⟩
theorem open_ok {K : Cx} {k : Int} {h : Th} {c : Int} (A : Onn K k h) (hc : 0 ≤ c ∧ c ≤ k) (r : List Int) (hr : ∀ s ∈ r, 0 ≤ s ∧ s < K.c.s) : ThOk K k (hOpenAt c r h) := by
 cases r with
 | nil => exact A.st _ trivial
 | cons q r => exact A.st _ ⟨hc, by simp, hr⟩
theorem word_ok {K : Cx} {k : Int} {h : Th} {c : Int} (A : Onn K k h) (hc : 0 ≤ c ∧ c ≤ k) (r : List EntD) (hr : ∀ e ∈ r, 0 ≤ e.what ∧ e.what < K.c.wd ∧ 0 ≤ e.val ∧ e.val ≤ 65535) : ThOk K k (hWordAt c r h) := by
 cases r with
 | nil => exact open_ok A hc _ A.x.hd
 | cons q r => exact A.st _ ⟨hc, by simp, hr⟩
theorem shut_ok {K : Cx} {k : Int} {h : Th} {c : Int} (A : Onn K k h) (hc : 0 ≤ c ∧ c ≤ k) (r : List Int) (hr : ∀ s ∈ r, 0 ≤ s ∧ s < K.c.s) : ThOk K k (hShutAt c r h) := by
 cases r with
 | nil => exact A.st _ hc
 | cons q r => exact A.st _ ⟨hc, by simp, hr⟩
theorem still_ok {K : Cx} {k : Int} {h : Th} {c : Int} (A : Onn K k h) (hc : 0 ≤ c ∧ c ≤ k) : ∀ (r : List EntD), (∀ e ∈ r, 0 ≤ e.what ∧ e.what < K.c.s) → ThOk K k (hStillAt c r h)
 | [], hr => shut_ok A hc _ A.x.hd
 | e :: r, hr => by
  unfold hStillAt
  split
  ·exact still_ok A hc r (fun e he => hr e (List.mem_cons_of_mem _ he))
  ·exact A.st _ ⟨hc, by simp, hr⟩
theorem to_ok {K : Cx} {k : Int} {h : Th} (A : Onn K k h) (hk : 0 ≤ k) (j : Nat) : ThOk K k (hTo K j h) := by
 unfold hTo
 split
 ·exact ⟨⟨Int.le_refl _, hk⟩, A.x, trivial⟩
 ·exact A.st _ trivial
theorem rest_ok {K : Cx} {k : Int} {h : Th} (A : Onn K k h) (d : Int) : ThOk K k (hRest K d h) := by
 unfold hRest
 simp only
 generalize (d.tmod ((if h.fails < K.c.cp then h.fails else K.c.cp) + 1)).toNat = n
 split
 ·rename_i hn
  exact A.st _ hn.2
 ·exact A.st _ trivial
theorem new_ok {K : Cx} {k v : Int} (hf : 0 ≤ K.c.f) (ht : 1 ≤ K.c.t) (code : List InsD) (hv : 0 ≤ v ∧ v ≤ k) : XOk K k (newTS code v) :=
 ⟨rfl, fun r hr => by simp [newTS] at hr; omega, fun e he => by simp [newTS] at he, fun e he => by simp [newTS] at he, fun e he => by simp [newTS] at he, by simp [newTS], by simp [newTS], by simp [newTS], hv, ⟨by simp [newTS], by simp [newTS]; omega⟩, Nat.zero_le _, by simp [newTS]; exact hf⟩
theorem total_eq (c : Cfg) : total c = 3 + 2 * c.s + c.t + c.wd := rfl
theorem sok_mod {c : Cfg} {k v : Int} (h : SOk c k v) : v.tmod 8 = v % 8 ∧ v.tdiv 8 = v / 8 := ⟨Int.tmod_eq_emod_of_nonneg h.1, Int.tdiv_eq_ediv_of_nonneg h.1⟩
theorem held_false {x : TS} {s : Int} (h : heldB x s = false) : s ∉ x.held := by
 intro hm
 unfold heldB at h
 rw [List.any_eq_false] at h
 have := h s hm
 simp at this
theorem next_ok {K : Cx} {k : Int} {h : Th} (hc : cfgB K.c = true) (hm : 0 ≤ K.me ∧ K.me < K.c.t) (hk : 0 ≤ k) (A : ThOk K k h) (v : AnsD) (hv : (hOut K h).kind ≠ 0 → VOk K.c k (hOut K h).cell v.seen) : ThOk K (k + 1) (hNext K h v) := by
 obtain ⟨⟨t1, t2⟩, ⟨w1, w2⟩, ⟨s1, s2⟩, ⟨g1, g2⟩, ⟨r1, r2⟩, ⟨p1, p2⟩, ⟨f1, f2⟩⟩ := cfgB_true hc
 have B : ThOk K (k + 1) h := A.mono (by omega)
 have N := B.on
 have hx := B.x
 have hs := A.step
 unfold StepOk at hs
 unfold hOut at hv
 unfold hNext
 have st : ∀ {i : InsD} {a : Int}, AOk K i a → 0 ≤ a.tmod K.c.s ∧ a.tmod K.c.s < K.c.s := fun ha => tmodP s1 ha.1
 cases hst : h.st with
 | idle => exact B
 | start =>
  rw [hst] at hv
  have := (hv (by simp)).cnt (Or.inl rfl)
  exact go_ok ⟨B.rank, new_ok (by omega) t1 _ ⟨this.1, by omega⟩⟩
 | rHeld i a =>
  rw [hst] at hv hs
  have := (hv (by simp)).wrd (by show _ ≤ hWrd K a; unfold hWrd; have := hs.1; omega) (by show hWrd K a < _; rw [total_eq]; unfold hWrd; have := hs.2.1; omega)
  exact got_ok N this.1 this.2
 | rVer i a =>
  rw [hst] at hv hs
  have b := st hs
  have := (hv (by simp)).ver (by show _ ≤ hVer _; unfold hVer; omega) (by show hVer _ < _; unfold hVer; omega)
  simp only
  split
  ·exact B
  ·exact N.st _ ⟨hs, by omega, by omega⟩
 | rWord i a one =>
  rw [hst] at hv hs
  have := (hv (by simp)).wrd (by show _ ≤ hWrd K a; unfold hWrd; have := hs.1.1; omega) (by show hWrd K a < _; rw [total_eq]; unfold hWrd; have := hs.1.2.1; omega)
  exact N.st _ ⟨hs.1, ⟨hs.2.1, by have := hs.2.2; omega⟩, this.1, this.2⟩
 | rAgain i a one w =>
  rw [hst] at hv hs
  simp only
  split
  ·exact N.st _ hs.1
  ·have b := st hs.1
   have X1 : XOk K (k + 1) (if (entIdx h.x.reads (a.tmod K.c.s)).isSome then h.x else { h.x with reads := h.x.reads ++ [⟨a.tmod K.c.s, one⟩] }) := by
    split
    ·exact hx
    ·rename_i hn
     have hnn : entIdx h.x.reads (a.tmod K.c.s) = none := by
      cases e : entIdx h.x.reads (a.tmod K.c.s) with
      | none => rfl
      | some j => rw [e] at hn; exact absurd rfl hn
     refine ⟨hx.four, hx.rg, hx.wr, fun e he => ?_, hx.hd, hx.wn, ?_, hx.hn, hx.valid, hx.way, hx.plc, hx.bg⟩
     ·rcases List.mem_append.1 he with h3 | h3
      ·exact hx.rd e h3
      ·rw [List.mem_singleton.1 h3]
       exact ⟨b.1, b.2, hs.2.1.1, by have := hs.2.1.2; show one ≤ _; omega⟩
     ·show ((h.x.reads ++ [(⟨a.tmod K.c.s, one⟩ : EntD)]).map (fun e => e.what)).Nodup
      rw [List.map_append, List.nodup_append]
      refine ⟨hx.rn, by simp, fun p hp q hq => ?_⟩
      simp only [List.map_cons, List.map_nil] at hq
      rw [List.mem_singleton.1 hq]
      intro e
      rw [e] at hp
      exact entOut hnn hp
   generalize (if (entIdx h.x.reads (a.tmod K.c.s)).isSome then h.x else { h.x with reads := h.x.reads ++ [⟨a.tmod K.c.s, one⟩] }) = x1 at *
   split
   ·exact got_ok ⟨B.rank, X1⟩ hs.2.2.1 hs.2.2.2
   ·exact ⟨B.rank, X1, hs.1, hs.2.2.1, hs.2.2.2⟩
 | xClock e =>
  rw [hst] at hv hs
  have := (hv (by simp)).cnt (Or.inl rfl)
  exact exstill_ok N hs ⟨this.1, by omega⟩ _ (fun e he => ⟨(hx.rd e he).1, (hx.rd e he).2.1⟩)
 | xVer e c r =>
  rw [hst] at hs
  cases r with
  | nil => exact absurd rfl hs.2.2.1
  | cons q r =>
   simp only
   split
   ·exact fail_ok N
   ·exact exstill_ok N hs.1 ⟨hs.2.1.1, by have := hs.2.1.2; omega⟩ _ (fun e he => hs.2.2.2 e (List.mem_cons_of_mem _ he))
 | gStat i a =>
  rw [hst] at hs
  simp only
  split
  ·exact fail_ok N
  ·exact N.st _ hs
 | gOwn i a =>
  rw [hst] at hv hs
  have b := st hs.1
  have := (hv (by simp)).own (by show _ ≤ hOwn K _; unfold hOwn; omega) (by show hOwn K _ < _; unfold hOwn; omega)
  simp only
  split
  ·refine ⟨B.rank, ⟨hx.four, hx.rg, hx.wr, hx.rd, fun s hs' => ?_, hx.wn, hx.rn, ?_, hx.valid, hx.way, hx.plc, hx.bg⟩, hs.1⟩
   ·rcases List.mem_append.1 hs' with h3 | h3
    ·exact hx.hd s h3
    ·rw [List.mem_singleton.1 h3]; exact b
   ·show (h.x.held ++ [a.tmod K.c.s]).Nodup
    rw [List.nodup_append]
    refine ⟨hx.hn, by simp, fun p hp q hq => ?_⟩
    rw [List.mem_singleton.1 hq]
    intro e
    rw [e] at hp
    exact held_false hs.2 hp
  ·split
   ·exact fail_ok N
   ·exact N.st _ ⟨hs, by omega, by omega⟩
 | gTheir i a u =>
  rw [hst] at hv hs
  have hu := (hv (by simp)).sta (by show _ ≤ hSta K _; unfold hSta; have := hs.2.1; omega) (by show hSta K _ < _; unfold hSta; have := hs.2.2; omega)
  simp only
  split
  ·refine fail_ok ⟨B.rank, ⟨hx.four, hx.rg, hx.wr, hx.rd, hx.hd, hx.wn, hx.rn, hx.hn, hx.valid, ?_, hx.plc, hx.bg⟩⟩
   have := hs.2
   exact ⟨by show -1 ≤ u - 1; omega, by show u - 1 < _; omega⟩
  ·split
   ·rename_i hm
    refine N.st _ ⟨hs.1, hs.2, ⟨hu.1, hu.2.1, by have := hu.2.2; omega⟩, ?_⟩
    rw [(sok_mod hu).1] at hm
    exact hm
   ·exact N.st _ hs.1
 | gMark i a u th =>
  rw [hst] at hs
  exact N.st _ hs.1
 | gVer i a =>
  rw [hst] at hs
  simp only
  split
  ·exact N.st _ hs
  ·exact wrote_ok N hs
 | tTake =>
  rw [hst] at hv
  have := (hv (by simp)).cnt (Or.inr rfl)
  exact ⟨⟨by show 0 ≤ v.seen + 1; omega, by show v.seen + 1 ≤ _; omega⟩, B.x, trivial⟩
 | tShow =>
  simp only
  split
  ·exact fail_ok N
  ·exact go_ok N
 | cStat =>
  simp only
  split
  ·exact fail_ok N
  ·exact N.st _ trivial
 | cGate =>
  refine ⟨B.rank, ⟨hx.four, hx.rg, hx.wr, hx.rd, hx.hd, hx.wn, hx.rn, hx.hn, hx.valid, hx.way, hx.plc, hx.bg⟩, ?_⟩
  show StepOk K (k + 1) { h with x := { h.x with inGate := v.seen == 0 }, st := if v.seen = 0 then .cClock else .cGate }
  by_cases h0 : v.seen = 0
  ·rw [if_pos h0]; trivial
  ·rw [if_neg h0]; trivial
 | cClock =>
  rw [hst] at hv
  have := (hv (by simp)).cnt (Or.inl rfl)
  simp only
  split
  ·exact still_ok N ⟨this.1, by omega⟩ _ (fun e he => ⟨(hx.rd e he).1, (hx.rd e he).2.1⟩)
  ·exact shut_ok N ⟨this.1, by omega⟩ _ hx.hd
 | cVer c r =>
  rw [hst] at hs
  cases r with
  | nil => exact absurd rfl hs.2.1
  | cons q r =>
   simp only
   split
   ·exact fail_ok N
   ·exact still_ok N ⟨hs.1.1, by have := hs.1.2; omega⟩ _ (fun e he => hs.2.2 e (List.mem_cons_of_mem _ he))
 | cShut c r =>
  rw [hst] at hs
  cases r with
  | nil => exact absurd rfl hs.2.1
  | cons q r => exact shut_ok N ⟨hs.1.1, by have := hs.1.2; omega⟩ _ (fun e he => hs.2.2 e (List.mem_cons_of_mem _ he))
 | cStamp c =>
  rw [hst] at hs
  exact ⟨B.rank, B.x, hs.1, by have := hs.2; omega⟩
 | cLeave c =>
  rw [hst] at hs
  exact word_ok N ⟨hs.1, by have := hs.2; omega⟩ _ hx.wr
 | cWord c r =>
  rw [hst] at hs
  cases r with
  | nil => exact absurd rfl hs.2.1
  | cons q r => exact word_ok N ⟨hs.1.1, by have := hs.1.2; omega⟩ _ (fun e he => hs.2.2 e (List.mem_cons_of_mem _ he))
 | cOpen c r =>
  rw [hst] at hs
  cases r with
  | nil => exact absurd rfl hs.2.1
  | cons q r => exact N.st _ ⟨⟨hs.1.1, by have := hs.1.2; omega⟩, hs.2⟩
 | cOwn c r =>
  rw [hst] at hs
  cases r with
  | nil => exact absurd rfl hs.2.1
  | cons q r => exact open_ok N ⟨hs.1.1, by have := hs.1.2; omega⟩ _ (fun e he => hs.2.2 e (List.mem_cons_of_mem _ he))
 | free e r =>
  rw [hst] at hs
  cases r with
  | nil => exact absurd rfl hs.1
  | cons q r => exact free_ok N e _ (fun e he => hs.2 e (List.mem_cons_of_mem _ he))
 | fin e =>
  show ThOk K (k + 1) (hTo K (h.job + 1) _)
  refine to_ok ?_ (by omega) _
  exact ⟨B.rank, B.x⟩
 | fGate => exact failown_ok N _ hx.hd
 | fOwn r =>
  rw [hst] at hs
  cases r with
  | nil => exact absurd rfl hs.1
  | cons q r => exact failown_ok N _ (fun e he => hs.2 e (List.mem_cons_of_mem _ he))
 | fTake =>
  rw [hst] at hv
  have := (hv (by simp)).cnt (Or.inr rfl)
  exact ⟨⟨by show 0 ≤ v.seen + 1; omega, by show v.seen + 1 ≤ _; omega⟩, B.x, trivial⟩
 | fStat =>
  rw [hst] at hv
  have hu := (hv (by simp)).sta (by show _ ≤ hSta K _; unfold hSta; omega) (by show hSta K _ < _; unfold hSta; omega)
  have hu1 := (sok_mod hu).1
  have hu2 := hu.2.1
  have A2 : Onn K (k + 1) (h.ended v.num 5) := ⟨B.rank, B.x⟩
  have hw : (if 0 < v.seen.tmod 8 then v.seen.tmod 8 - 1 else h.x.way) < K.c.t := by
   split
   ·omega
   ·exact hx.way.2
  generalize (if 0 < v.seen.tmod 8 then v.seen.tmod 8 - 1 else h.x.way) = win at *
  simp only
  split
  ·rename_i h0
   exact ⟨B.rank, B.x, h0, hw⟩
  ·exact rest_ok A2 _
 | wait win =>
  simp only
  split
  ·exact N.st _ trivial
  ·exact B
 | rest n =>
  rw [hst] at hs
  simp only
  split
  ·exact N.st _ trivial
  ·exact N.st _ (by show n - 1 ≠ 0; omega)
theorem ask_ok {K : Cx} {k : Int} {h : Th} (hc : cfgB K.c = true) (hm : 0 ≤ K.me ∧ K.me < K.c.t) (hk : 0 ≤ k) (A : ThOk K k h) (h0 : (hOut K h).kind ≠ 0) :
  (0 ≤ (hOut K h).cell ∧ (hOut K h).cell < total K.c) ∧ ∀ v, VOk K.c k (hOut K h).cell v → VOk K.c (k + 1) (hOut K h).cell (putV (hOut K h) v) := by
 obtain ⟨⟨t1, t2⟩, ⟨w1, w2⟩, ⟨s1, s2⟩, ⟨g1, g2⟩, ⟨r1, r2⟩, ⟨p1, p2⟩, ⟨f1, f2⟩⟩ := cfgB_true hc
 have hs := A.step
 have hr := A.rank
 unfold StepOk at hs
 unfold hOut at h0 ⊢
 have st : ∀ {i : InsD} {a : Int}, AOk K i a → 0 ≤ a.tmod K.c.s ∧ a.tmod K.c.s < K.c.s := fun ha => tmodP s1 ha.1
 -- the cells
 have ld : ∀ (x : Int), (0 ≤ x ∧ x < total K.c) → (0 ≤ (⟨1, x, 0, 0⟩ : AskD).cell ∧ (⟨1, x, 0, 0⟩ : AskD).cell < total K.c) ∧ ∀ v, VOk K.c k (⟨1, x, 0, 0⟩ : AskD).cell v → VOk K.c (k + 1) (⟨1, x, 0, 0⟩ : AskD).cell (putV ⟨1, x, 0, 0⟩ v) := fun x hx => ⟨hx, fun v hv => by
     have e : putV ⟨1, x, 0, 0⟩ v = v := by simp [putV]
     rw [e]
     exact hv.mono (by omega)⟩
 have sto : ∀ (x z : Int), (0 ≤ x ∧ x < total K.c) → VOk K.c (k + 1) x z → (0 ≤ (⟨2, x, 0, z⟩ : AskD).cell ∧ (⟨2, x, 0, z⟩ : AskD).cell < total K.c) ∧ ∀ v, VOk K.c k (⟨2, x, 0, z⟩ : AskD).cell v → VOk K.c (k + 1) (⟨2, x, 0, z⟩ : AskD).cell (putV ⟨2, x, 0, z⟩ v) := fun x z hx hto => ⟨hx, fun v hv => by
     have e : putV ⟨2, x, 0, z⟩ v = z := by simp [putV]
     rw [e]
     exact hto⟩
 have swp : ∀ (x y z : Int), (0 ≤ x ∧ x < total K.c) → VOk K.c (k + 1) x z → (0 ≤ (⟨3, x, y, z⟩ : AskD).cell ∧ (⟨3, x, y, z⟩ : AskD).cell < total K.c) ∧ ∀ v, VOk K.c k (⟨3, x, y, z⟩ : AskD).cell v → VOk K.c (k + 1) (⟨3, x, y, z⟩ : AskD).cell (putV ⟨3, x, y, z⟩ v) := fun x y z hx hto => ⟨hx, fun v hv => by
     have e : putV ⟨3, x, y, z⟩ v = if v = y then z else v := by simp [putV]
     rw [e]
     split
     ·exact hto
     ·exact hv.mono (by omega)⟩
 have tak : (0 ≤ (⟨4, 1, 0, 0⟩ : AskD).cell ∧ (⟨4, 1, 0, 0⟩ : AskD).cell < total K.c) ∧ ∀ v, VOk K.c k (⟨4, 1, 0, 0⟩ : AskD).cell v → VOk K.c (k + 1) (⟨4, 1, 0, 0⟩ : AskD).cell (putV ⟨4, 1, 0, 0⟩ v) := ⟨⟨by simp, by rw [total_eq]; simp; omega⟩, fun v hv => by
     have e : putV ⟨4, 1, 0, 0⟩ v = v + 1 := by simp [putV]
     rw [e]
     have := hv.cnt (Or.inr rfl)
     exact ⟨fun _ => by omega, (fun e => by simp at e), (fun e => by simp at e), (fun e => by simp at e; omega), (fun e => by simp at e; omega), (fun e => by simp at e; omega)⟩⟩
 -- what may be put
 have pv : ∀ (s v : Int), 0 ≤ s → s < K.c.s → -1 ≤ v → v ≤ k + 1 → VOk K.c (k + 1) (hVer s) v := fun s v a b c d => by
  unfold hVer
  exact ⟨(fun e => by omega), (fun e => by omega), fun _ _ => ⟨c, d⟩, (fun e => by omega), (fun e => by omega), (fun e => by omega)⟩
 have po : ∀ (s v : Int), 0 ≤ s → s < K.c.s → 0 ≤ v → v ≤ K.c.t → VOk K.c (k + 1) (hOwn K s) v := fun s v a b c d => by
  unfold hOwn
  exact ⟨(fun e => by omega), (fun e => by omega), (fun _ e => by omega), fun _ _ => ⟨c, d⟩, (fun e => by omega), (fun e => by omega)⟩
 have psr : ∀ (t r : Int), 0 ≤ t → t < K.c.t → SOk K.c (k + 1) r → VOk K.c (k + 1) (hSta K t) r := fun t r a b c => by
  unfold hSta
  exact ⟨(fun e => by omega), (fun e => by omega), (fun _ e => by omega), (fun _ e => by omega), fun _ _ => c, (fun e => by omega)⟩
 have pw : ∀ (a v : Int), 0 ≤ a → a < K.c.wd → 0 ≤ v → v ≤ 65535 → VOk K.c (k + 1) (hWrd K a) v := fun a v b c d e => by
  unfold hWrd
  exact ⟨(fun e => by omega), (fun e => by omega), (fun _ e => by omega), (fun _ e => by omega), (fun _ e => by omega), fun _ _ => ⟨d, e⟩⟩
 have pg : ∀ (v : Int), 0 ≤ v → v ≤ K.c.t → VOk K.c (k + 1) 2 v := fun v a b => ⟨(fun e => by omega), fun _ => ⟨a, b⟩, (fun e => by omega), (fun e => by omega), (fun e => by omega), (fun e => by omega)⟩
 have pc : ∀ (v : Int), 0 ≤ v → v ≤ k + 1 → VOk K.c (k + 1) 0 v := fun v a b => ⟨fun _ => ⟨a, b⟩, (fun e => by omega), (fun e => by omega), (fun e => by omega), (fun e => by omega), (fun e => by omega)⟩
 have bv : ∀ (s : Int), 0 ≤ s → s < K.c.s → 0 ≤ hVer s ∧ hVer s < total K.c := fun s a b => by rw [total_eq]; unfold hVer; omega
 have bo : ∀ (s : Int), 0 ≤ s → s < K.c.s → 0 ≤ hOwn K s ∧ hOwn K s < total K.c := fun s a b => by rw [total_eq]; unfold hOwn; omega
 have bs : ∀ (t : Int), 0 ≤ t → t < K.c.t → 0 ≤ hSta K t ∧ hSta K t < total K.c := fun s a b => by rw [total_eq]; unfold hSta; omega
 have bw : ∀ (a : Int), 0 ≤ a → a < K.c.wd → 0 ≤ hWrd K a ∧ hWrd K a < total K.c := fun s a b => by rw [total_eq]; unfold hWrd; omega
 have b2 : (0 : Int) ≤ 2 ∧ 2 < total K.c := by rw [total_eq]; omega
 have b0 : (0 : Int) ≤ 0 ∧ 0 < total K.c := by rw [total_eq]; omega
 have rk : SOk K.c (k + 1) (8 * h.rank) := ⟨by omega, by omega, by omega⟩
 have zk : SOk K.c (k + 1) 0 := ⟨by omega, by omega, by omega⟩
 cases hst : h.st with
 | idle => rw [hst] at h0; exact absurd rfl h0
 | start => exact ld 0 b0
 | rHeld i a => rw [hst] at hs; exact ld _ (bw a hs.1 hs.2.1)
 | rVer i a => rw [hst] at hs; exact ld _ (bv _ (st hs).1 (st hs).2)
 | rWord i a one => rw [hst] at hs; exact ld _ (bw a hs.1.1 hs.1.2.1)
 | rAgain i a one w => rw [hst] at hs; exact ld _ (bv _ (st hs.1).1 (st hs.1).2)
 | xClock e => exact ld 0 b0
 | xVer e c r =>
  rw [hst] at hs
  cases r with
  | nil => exact absurd rfl hs.2.2.1
  | cons q r => exact ld _ (bv _ (hs.2.2.2 q List.mem_cons_self).1 (hs.2.2.2 q List.mem_cons_self).2)
 | gStat i a => exact ld _ (bs _ hm.1 hm.2)
 | gOwn i a => rw [hst] at hs; exact swp _ _ _ (bo _ (st hs.1).1 (st hs.1).2) (po _ _ (st hs.1).1 (st hs.1).2 (by omega) (by omega))
 | gTheir i a u => rw [hst] at hs; exact ld _ (bs _ (by have := hs.2.1; omega) (by have := hs.2.2; omega))
 | gMark i a u th =>
  rw [hst] at hs
  obtain ⟨_, ⟨u0, u1⟩, ⟨q0, q1, q2⟩, q3⟩ := hs
  exact swp _ _ _ (bs _ (by omega) (by omega)) (psr _ _ (by omega) (by omega) ⟨by omega, by omega, by omega⟩)
 | gVer i a => rw [hst] at hs; exact ld _ (bv _ (st hs).1 (st hs).2)
 | tTake => exact tak
 | tShow => exact swp _ _ _ (bs _ hm.1 hm.2) (psr _ _ hm.1 hm.2 rk)
 | cStat => exact ld _ (bs _ hm.1 hm.2)
 | cGate => exact swp _ _ _ b2 (pg _ (by omega) (by omega))
 | cClock => exact ld 0 b0
 | cVer c r =>
  rw [hst] at hs
  cases r with
  | nil => exact absurd rfl hs.2.1
  | cons q r => exact ld _ (bv _ (hs.2.2 q List.mem_cons_self).1 (hs.2.2 q List.mem_cons_self).2)
 | cShut c r =>
  rw [hst] at hs
  cases r with
  | nil => exact absurd rfl hs.2.1
  | cons q r =>
   have b := hs.2.2 q List.mem_cons_self
   exact sto _ _ (bv _ b.1 b.2) (pv _ _ b.1 b.2 (by omega) (by omega))
 | cStamp c => rw [hst] at hs; exact sto _ _ b0 (pc _ (by have := hs.1; omega) (by have := hs.2; omega))
 | cLeave c => exact sto _ _ b2 (pg _ (by omega) (by omega))
 | cWord c r =>
  rw [hst] at hs
  cases r with
  | nil => exact absurd rfl hs.2.1
  | cons q r =>
   have b := hs.2.2 q List.mem_cons_self
   exact sto _ _ (bw _ b.1 b.2.1) (pw _ _ b.1 b.2.1 b.2.2.1 b.2.2.2)
 | cOpen c r =>
  rw [hst] at hs
  cases r with
  | nil => exact absurd rfl hs.2.1
  | cons q r =>
   have b := hs.2.2 q List.mem_cons_self
   exact sto _ _ (bv _ b.1 b.2) (pv _ _ b.1 b.2 (by have := hs.1.1; omega) (by have := hs.1.2; omega))
 | cOwn c r =>
  rw [hst] at hs
  cases r with
  | nil => exact absurd rfl hs.2.1
  | cons q r =>
   have b := hs.2.2 q List.mem_cons_self
   exact sto _ _ (bo _ b.1 b.2) (po _ _ b.1 b.2 (by omega) (by omega))
 | free e r =>
  rw [hst] at hs
  cases r with
  | nil => exact absurd rfl hs.1
  | cons q r =>
   have b := hs.2 q List.mem_cons_self
   exact sto _ _ (bo _ b.1 b.2) (po _ _ b.1 b.2 (by omega) (by omega))
 | fin e => exact sto _ _ (bs _ hm.1 hm.2) (psr _ _ hm.1 hm.2 zk)
 | fGate => exact sto _ _ b2 (pg _ (by omega) (by omega))
 | fOwn r =>
  rw [hst] at hs
  cases r with
  | nil => exact absurd rfl hs.1
  | cons q r =>
   have b := hs.2 q List.mem_cons_self
   exact sto _ _ (bo _ b.1 b.2) (po _ _ b.1 b.2 (by omega) (by omega))
 | fTake => exact tak
 | fStat => exact sto _ _ (bs _ hm.1 hm.2) (psr _ _ hm.1 hm.2 rk)
 | wait win => rw [hst] at hs; exact ld _ (bs _ hs.1 hs.2)
 | rest n => rw [hst] at h0; exact absurd rfl h0
end Go.Proofs.YtejadojilncbjabGreat
