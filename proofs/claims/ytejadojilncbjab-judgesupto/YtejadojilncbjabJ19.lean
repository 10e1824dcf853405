import Derived.Test.YtejadojilncbjabJ16
import Derived.Test.YtejadojilncbjabJ17
import Derived.Test.YtejadojilncbjabJ18
import Derived.Deep.DeepCutAuto
import Derived.Test.YtejadojilncbjabJ14
import Derived.Test.YtejadojilncbjabRows
import Derived.ShutString
import Derived.ChangeOld
import Derived.JoinedCond
namespace Go.Proofs.Ytejadojilncbjab
set_option linter.unusedVariables false

/-! What stays true of the cells and of the machines, whatever is picked: bounds. -/

def total (c : Cfg) : Int := 3 + 2 * c.s + c.t + c.wd

/-- A status: a rank, a mark. -/
def SOk (c : Cfg) (k v : Int) : Prop := 0 ≤ v ∧ v % 8 ≤ c.t ∧ v / 8 ≤ k

/-- What may stand in a cell. -/
structure VOk (c : Cfg) (k x v : Int) : Prop where
  cnt : x = 0 ∨ x = 1 → 0 ≤ v ∧ v ≤ k
  gate : x = 2 → 0 ≤ v ∧ v ≤ c.t
  ver : 3 ≤ x → x < 3 + c.s → -1 ≤ v ∧ v ≤ k
  own : 3 + c.s ≤ x → x < 3 + 2 * c.s → 0 ≤ v ∧ v ≤ c.t
  sta : 3 + 2 * c.s ≤ x → x < 3 + 2 * c.s + c.t → SOk c k v
  wrd : 3 + 2 * c.s + c.t ≤ x → x < total c → 0 ≤ v ∧ v ≤ 65535

theorem VOk.mono {c : Cfg} {k k' x v : Int} (h : VOk c k x v) (hk : k ≤ k') : VOk c k' x v :=
  ⟨fun e => ⟨(h.cnt e).1, Int.le_trans (h.cnt e).2 hk⟩, h.gate, fun a b => ⟨(h.ver a b).1, Int.le_trans (h.ver a b).2 hk⟩, h.own, fun a b => ⟨(h.sta a b).1, (h.sta a b).2.1, Int.le_trans (h.sta a b).2.2 hk⟩, h.wrd⟩

structure XOk (K : Cx) (k : Int) (x : TS) : Prop where
  four : x.regs.length = 4
  rg : ∀ r ∈ x.regs, 0 ≤ r ∧ r ≤ 65535
  wr : ∀ e ∈ x.writes, 0 ≤ e.what ∧ e.what < K.c.wd ∧ 0 ≤ e.val ∧ e.val ≤ 65535
  rd : ∀ e ∈ x.reads, 0 ≤ e.what ∧ e.what < K.c.s ∧ 0 ≤ e.val ∧ e.val ≤ k
  hd : ∀ s ∈ x.held, 0 ≤ s ∧ s < K.c.s
  wn : (x.writes.map (·.what)).Nodup
  rn : (x.reads.map (·.what)).Nodup
  hn : x.held.Nodup
  valid : 0 ≤ x.valid ∧ x.valid ≤ k
  way : -1 ≤ x.way ∧ x.way < K.c.t
  plc : x.place ≤ x.code.length
  bg : (x.begun : Int) ≤ K.c.f

theorem XOk.mono {K : Cx} {k k' : Int} {x : TS} (h : XOk K k x) (hk : k ≤ k') : XOk K k' x :=
  ⟨h.four, h.rg, h.wr, fun e he => ⟨(h.rd e he).1, (h.rd e he).2.1, (h.rd e he).2.2.1, Int.le_trans (h.rd e he).2.2.2 hk⟩, h.hd, h.wn, h.rn, h.hn, ⟨h.valid.1, Int.le_trans h.valid.2 hk⟩, h.way, h.plc, h.bg⟩

/-- The instruction that is under way, and its word. -/
def AOk (K : Cx) (i : InsD) (a : Int) : Prop := 0 ≤ a ∧ a < K.c.wd ∧ 0 ≤ i.a ∧ i.a ≤ 3 ∧ 0 ≤ i.b ∧ i.b ≤ 3
def ExOk (K : Cx) : Ex → Prop
  | .rd i a v => AOk K i a ∧ 0 ≤ v ∧ v ≤ 65535
  | .wr i a => AOk K i a
def RdOk (K : Cx) (r : List EntD) : Prop := r ≠ [] ∧ ∀ e ∈ r, 0 ≤ e.what ∧ e.what < K.c.s
def HdOk (K : Cx) (r : List Int) : Prop := r ≠ [] ∧ ∀ s ∈ r, 0 ≤ s ∧ s < K.c.s
def WrOk (K : Cx) (r : List EntD) : Prop := r ≠ [] ∧ ∀ e ∈ r, 0 ≤ e.what ∧ e.what < K.c.wd ∧ 0 ≤ e.val ∧ e.val ≤ 65535

def StepOk (K : Cx) (k : Int) (h : Th) : Prop := match h.st with
  | .idle => True
  | .start => True
  | .rHeld i a => AOk K i a
  | .rVer i a => AOk K i a
  | .rWord i a one => AOk K i a ∧ 0 ≤ one ∧ one ≤ k
  | .rAgain i a one v => AOk K i a ∧ (0 ≤ one ∧ one ≤ k) ∧ 0 ≤ v ∧ v ≤ 65535
  | .xClock e => ExOk K e
  | .xVer e c r => ExOk K e ∧ (0 ≤ c ∧ c ≤ k) ∧ RdOk K r
  | .gStat i a => AOk K i a ∧ heldB h.x (a.tmod K.c.s) = false
  | .gOwn i a => AOk K i a ∧ heldB h.x (a.tmod K.c.s) = false
  | .gTheir i a u => (AOk K i a ∧ heldB h.x (a.tmod K.c.s) = false) ∧ 1 ≤ u ∧ u ≤ K.c.t
  | .gMark i a u th => (AOk K i a ∧ heldB h.x (a.tmod K.c.s) = false) ∧ (1 ≤ u ∧ u ≤ K.c.t) ∧ SOk K.c k th ∧ th % 8 = 0
  | .gVer i a => AOk K i a
  | .tTake => True
  | .tShow => True
  | .cStat => True
  | .cGate => True
  | .cClock => True
  | .cVer c r => (0 ≤ c ∧ c ≤ k) ∧ RdOk K r
  | .cShut c r => (0 ≤ c ∧ c ≤ k) ∧ HdOk K r
  | .cStamp c => 0 ≤ c ∧ c ≤ k
  | .cLeave c => 0 ≤ c ∧ c ≤ k
  | .cWord c r => (0 ≤ c ∧ c ≤ k) ∧ WrOk K r
  | .cOpen c r => (0 ≤ c ∧ c ≤ k) ∧ HdOk K r
  | .cOwn c r => (0 ≤ c ∧ c ≤ k) ∧ HdOk K r
  | .free e r => HdOk K r
  | .fin e => True
  | .fGate => True
  | .fOwn r => HdOk K r
  | .fTake => True
  | .fStat => True
  | .wait win => 0 ≤ win ∧ win < K.c.t
  | .rest n => n ≠ 0

structure ThOk (K : Cx) (k : Int) (h : Th) : Prop where
  rank : 0 ≤ h.rank ∧ h.rank ≤ k
  x : XOk K k h.x
  step : StepOk K k h

theorem ThOk.mono {K : Cx} {k k' : Int} {h : Th} (A : ThOk K k h) (hk : k ≤ k') : ThOk K k' h := by
  refine ⟨⟨A.rank.1, Int.le_trans A.rank.2 hk⟩, A.x.mono hk, ?_⟩
  have hs := A.step
  unfold StepOk at hs ⊢
  cases hst : h.st <;> rw [hst] at hs <;> simp only at hs ⊢ <;> first
    | exact hs
    | exact ⟨hs.1, hs.2.1, Int.le_trans hs.2.2 hk⟩
    | exact ⟨hs.1, ⟨hs.2.1.1, Int.le_trans hs.2.1.2 hk⟩, hs.2.2⟩
    | exact ⟨hs.1, hs.2.1, ⟨hs.2.2.1.1, hs.2.2.1.2.1, Int.le_trans hs.2.2.1.2.2 hk⟩, hs.2.2.2⟩
    | exact ⟨⟨hs.1.1, Int.le_trans hs.1.2 hk⟩, hs.2⟩
    | exact ⟨hs.1, Int.le_trans hs.2 hk⟩

/-- What is known while the code goes on. -/
structure Onn (K : Cx) (k : Int) (h : Th) : Prop where
  rank : 0 ≤ h.rank ∧ h.rank ≤ k
  x : XOk K k h.x

theorem Onn.st {K : Cx} {k : Int} {h : Th} (A : Onn K k h) (s : St) (hs : StepOk K k { h with st := s }) : ThOk K k { h with st := s } := ⟨A.rank, A.x, hs⟩
theorem ThOk.on {K : Cx} {k : Int} {h : Th} (A : ThOk K k h) : Onn K k h := ⟨A.rank, A.x⟩

theorem XOk.setReg {K : Cx} {k : Int} {x : TS} (h : XOk K k x) (i v : Int) (h1 : 0 ≤ v) (h2 : v ≤ 65535) : XOk K k (setReg x i v) :=
  ⟨by simp [Go.Proofs.Ytejadojilncbjab.setReg, h.four], fun r hr => by
    rcases List.mem_or_eq_of_mem_set hr with h3 | h3
    · exact h.rg r h3
    · rw [h3]; exact ⟨h1, h2⟩, h.wr, h.rd, h.hd, h.wn, h.rn, h.hn, h.valid, h.way, h.plc, h.bg⟩

theorem entOut {l : List EntD} {a : Int} (h : entIdx l a = none) : a ∉ l.map (·.what) := by
  unfold entIdx at h
  rw [List.findIdx?_eq_none_iff] at h
  intro hm
  obtain ⟨e, he, h2⟩ := List.mem_map.1 hm
  have := h e he
  simp [h2] at this
theorem entIn {l : List EntD} {a : Int} {k : Nat} (h : entIdx l a = some k) : k < l.length ∧ (l.getD k ⟨0, 0⟩).what = a ∧ l.getD k ⟨0, 0⟩ ∈ l := by
  unfold entIdx at h
  rw [List.findIdx?_eq_some_iff_getElem] at h
  obtain ⟨hk, h1, _⟩ := h
  have e : l.getD k ⟨0, 0⟩ = l[k] := by simp [List.getD, List.getElem?_eq_getElem hk]
  rw [e]
  exact ⟨hk, by simpa using h1, List.getElem_mem hk⟩

theorem put_map {l : List EntD} {a v : Int} : (putEnt l a v).map (·.what) = if a ∈ l.map (·.what) then l.map (·.what) else l.map (·.what) ++ [a] := by
  unfold putEnt
  cases hk : entIdx l a with
  | none =>
    rw [if_neg (entOut hk)]
    simp
  | some k =>
    obtain ⟨h1, h2, h3⟩ := entIn hk
    rw [if_pos (List.mem_map.2 ⟨_, h3, h2⟩)]
    simp only
    rw [List.map_set]
    apply List.ext_getElem?
    intro j
    rw [List.getElem?_set]
    split
    · rename_i hj
      subst hj
      have e : l.getD k ⟨0, 0⟩ = l[k] := by simp [List.getD, List.getElem?_eq_getElem h1]
      rw [e] at h2
      simp [h1, h2]
    · rfl

theorem XOk.put {K : Cx} {k : Int} {x : TS} (h : XOk K k x) (a v : Int) (a0 : 0 ≤ a) (a1 : a < K.c.wd) (h1 : 0 ≤ v) (h2 : v ≤ 65535) : XOk K k { x with writes := putEnt x.writes a v } := by
  refine ⟨h.four, h.rg, fun e he => ?_, h.rd, h.hd, ?_, h.rn, h.hn, h.valid, h.way, h.plc, h.bg⟩
  · change e ∈ putEnt x.writes a v at he
    unfold putEnt at he
    split at he
    · rcases List.mem_or_eq_of_mem_set he with h3 | h3
      · exact h.wr e h3
      · rw [h3]; exact ⟨a0, a1, h1, h2⟩
    · rcases List.mem_append.1 he with h3 | h3
      · exact h.wr e h3
      · rw [List.mem_singleton.1 h3]; exact ⟨a0, a1, h1, h2⟩
  · show ((putEnt x.writes a v).map (·.what)).Nodup
    rw [put_map]
    split
    · exact h.wn
    · rename_i hn
      rw [List.nodup_append]
      exact ⟨h.wn, by simp, fun p hp q hq => by rw [List.mem_singleton.1 hq]; intro e; rw [e] at hp; exact hn hp⟩

theorem XOk.at {K : Cx} {k : Int} {x : TS} (h : XOk K k x) (b q : Nat) (hb : (b : Int) ≤ K.c.f) (hq : q ≤ x.code.length) : XOk K k { x with begun := b, place := q } := ⟨h.four, h.rg, h.wr, h.rd, h.hd, h.wn, h.rn, h.hn, h.valid, h.way, hq, hb⟩

theorem Onn.noted {K : Cx} {k : Int} {h : Th} (A : Onn K k h) (op a v : Int) : Onn K k (h.noted op a v) := ⟨A.rank, A.x⟩
theorem Onn.setx {K : Cx} {k : Int} {h : Th} (A : Onn K k h) (y : TS) (hy : XOk K k y) : Onn K k { h with x := y } := ⟨A.rank, hy⟩

end Go.Proofs.Ytejadojilncbjab

namespace Go.Proofs.Ytejadojilncbjab
set_option linter.unusedVariables false

/-! What stays true of the cells and of the machines: part 2: the steps. -/

/-- What comes of an instruction. -/
def On2 (K : Cx) (k : Int) (t : Bool × Th) : Prop := (t.1 = true → Onn K k t.2) ∧ (t.1 = false → ThOk K k t.2)
theorem On2.off {K : Cx} {k : Int} {h : Th} (A : ThOk K k h) : On2 K k (false, h) := ⟨(fun e => nomatch e), fun _ => A⟩
theorem On2.on {K : Cx} {k : Int} {h : Th} (A : Onn K k h) : On2 K k (true, h) := ⟨fun _ => A, (fun e => nomatch e)⟩

end Go.Proofs.Ytejadojilncbjab

namespace Go.Proofs.Ytejadojilncbjab
open Go.RowKit
set_option linter.unusedVariables false
attribute [local go_sem ↓] Go.wp_at_zero Go.wp_at_succ

/-- Jobs in memory. -/
def JobsRep (w : World) (B : Nat) (ja : Option Addr) (jobs : List (Int × List InsD)) : Prop :=
  ∃ js : List JobD, js.length = jobs.length ∧ JobsIn w B ja js ∧ ∀ i, i < js.length → (jobAt js i).t = (jobs.getD i (0, [])).1 ∧ (jobAt js i).len = (jobs.getD i (0, [])).2.length ∧ CodeIn w B (jobAt js i).a (jobs.getD i (0, [])).2

theorem CodeIn.up {w w' : World} {n : Nat} {a : Option Addr} {is : List InsD} (h : CodeIn w n a is) (hb : Below n w w') : CodeIn w' n a is := by
  intro i hi
  obtain ⟨b, off, ha, hlt, h0, h1, h2, h3⟩ := h i hi
  have e : ∀ o, w'.cell? ⟨b, o, none⟩ = w.cell? ⟨b, o, none⟩ := fun o => World.cell?_of_block (hb.block b hlt)
  exact ⟨b, off, ha, hlt, (e _).trans h0, (e _).trans h1, (e _).trans h2, (e _).trans h3⟩
theorem JobsRep.up {w w' : World} {n : Nat} {ja : Option Addr} {jobs : List (Int × List InsD)} (h : JobsRep w n ja jobs) (hb : Below n w w') : JobsRep w' n ja jobs := by
  obtain ⟨js, h1, h2, h3⟩ := h
  refine ⟨js, h1, fun i hi => ?_, fun i hi => ⟨(h3 i hi).1, (h3 i hi).2.1, (h3 i hi).2.2.up hb⟩⟩
  obtain ⟨b, off, ha, hlt, k0, k1⟩ := h2 i hi
  have e : ∀ o, w'.cell? ⟨b, o, none⟩ = w.cell? ⟨b, o, none⟩ := fun o => World.cell?_of_block (hb.block b hlt)
  exact ⟨b, off, ha, hlt, (e _).trans k0, (e _).trans k1⟩
theorem PicksIn.up {w w' : World} {n : Nat} {a : Option Addr} {l : List PickD} (h : PicksIn w n a l) (hb : Below n w w') : PicksIn w' n a l := by
  intro i hi
  obtain ⟨b, off, ha, hlt, k0, k1⟩ := h i hi
  have e : ∀ o, w'.cell? ⟨b, o, none⟩ = w.cell? ⟨b, o, none⟩ := fun o => World.cell?_of_block (hb.block b hlt)
  exact ⟨b, off, ha, hlt, (e _).trans k0, (e _).trans k1⟩

/-- A life that is laid is a life. -/
theorem TellR.life {c : Cfg} {me : Int} {jobs : List (Int × List InsD)} {ma ja : Option Addr} {ml mc jc n : Nat} {w : World} {S D W : List Int}
    (h : TellR c me jobs ma ja ml mc jc (n + 3) (n + 2) (n + 1) w S D W) (hj : JobsRep w n ja jobs) (he : Blk w (n + 1) 51 ((jobs.map fun _ => (⟨0, 0, 0, 0, 0⟩ : ResD)).flatMap resCells).toArray) (hsz : n + 3 ≤ w.heap.size) :
    ∃ H, LifeR ⟨c, me, S, D, W, jobs⟩ H w.heap.size (n + 2) (n + 1) w (newLS ⟨c, me, S, D, W, jobs⟩) ∧ H.ea = some ⟨n + 1, 0, none⟩ ∧ H.ec = jobs.length := by
  obtain ⟨sa, sc, da, dc, wa, wc, hb, hs, hd, hw, _, _, _⟩ := h
  have far : ∀ {a : Option Addr} {k : Nat} {l : List Int}, Row w (n + 3) a k l → Far w.heap.size (n + 2) (n + 1) a := fun {a k l} h b off e => by
    have := h.base _ e
    simp only at this
    exact ⟨this.2, by omega, by omega⟩
  obtain ⟨js, h1, h2, h3⟩ := hj
  refine ⟨⟨ma, ml, mc, ja, jc, sa, sc, da, dc, wa, wc, some ⟨n + 1, 0, none⟩, jobs.length⟩, ⟨⟨Nat.le_refl _, hs.ints, far hs, hd.ints, far hd, hw.ints, far hw, ⟨js, h1, fun i hi => ?_, fun i hi => ⟨(h3 i hi).1, (h3 i hi).2.1, fun k hk => ?_, fun hne => ?_⟩⟩, fun hne => ?_⟩, ⟨none, 0, hb, ⟨[], rfl, World.ownsRow_nil _ _ _ _, by simp [newLS], by simp⟩⟩, Or.inr ⟨rfl, he⟩, by omega, by omega, by omega⟩, rfl, rfl⟩
  · obtain ⟨b, off, ha, hlt, k0, k1⟩ := h2 i hi
    exact ⟨b, off, ha, by omega, k0, k1⟩
  · obtain ⟨b, off, ha, hlt, k0, k1, k2, k3⟩ := (h3 i hi).2.2 k hk
    exact ⟨b, off, ha, by omega, k0, k1, k2, k3⟩
  · intro b off e
    obtain ⟨b', off', ha, hlt, _⟩ := (h3 i hi).2.2 0 (List.length_pos_iff.2 hne)
    rw [ha] at e
    cases e
    exact ⟨by omega, by omega, by omega⟩
  · intro b off e
    obtain ⟨b', off', ha, hlt, _⟩ := h2 0 (by rw [h1]; exact List.length_pos_iff.2 hne)
    rw [ha] at e
    cases e
    exact ⟨by omega, by omega, by omega⟩

/-- Neither the life nor a row from outside is a row of the call's own. -/
theorem Row.ne {w : World} {B b : Nat} {a : Option Addr} {k : Nat} {l : List Int} (h : Row w B a k l) (hb : b < B) : (Value.slice a l.length k).ownBlock ≠ some b := fun e => by
  have := (World.ownsRow.lt h b e).1
  omega

end Go.Proofs.Ytejadojilncbjab

namespace Go.Proofs.Ytejadojilncbjab
open Go.RowKit
set_option linter.unusedVariables false
attribute [local go_sem ↓] Go.wp_at_zero Go.wp_at_succ

/-- What Alone looks at of a life. -/
def LifeAt (p eb : Nat) (r : ResD) (q : AskD) (w : World) : Prop :=
  w.cell? ⟨p, 22, none⟩ = some (.slice (some ⟨eb, 0, none⟩) 1 1) ∧ (∀ j, w.cell? ⟨eb, j, none⟩ = (#[.int .i64 r.fate, .int .i64 r.r0, .int .i64 r.r1, .int .i64 r.r2, .int .i64 r.r3] : Array Value)[j]?) ∧
    w.cell? ⟨p, 15, none⟩ = some (.int .i64 q.kind) ∧ w.cell? ⟨p, 16, none⟩ = some (.int .i64 q.cell) ∧ w.cell? ⟨p, 17, none⟩ = some (.int .i64 q.frm) ∧ w.cell? ⟨p, 18, none⟩ = some (.int .i64 q.to)

theorem LifeR.at {E : Env} {H : Hd} {B p eb : Nat} {w : World} {s : LS} {r : ResD} (h : LifeR E H B p eb w s) (he : s.ends = [r]) (hH : H.ea = some ⟨eb, 0, none⟩) (hc : H.ec = 1) : LifeAt p eb r s.next w := by
  obtain ⟨la, lc, hb, _⟩ := h.life
  rcases h.ends with h0 | ⟨_, h1⟩
  · rw [he] at h0; cases h0
  · rw [he] at h1
    refine ⟨?_, fun j => ?_, ?_, ?_, ?_, ?_⟩
    · rw [hb.cell]; simp [lifeArr, hH, hc, he]
    · rw [h1.cell]; rfl
    · rw [hb.cell]; rfl
    · rw [hb.cell]; rfl
    · rw [hb.cell]; rfl
    · rw [hb.cell]; rfl

theorem JobsRep.mono {w : World} {n m : Nat} {ja : Option Addr} {jobs : List (Int × List InsD)} (h : JobsRep w n ja jobs) (hm : n ≤ m) : JobsRep w m ja jobs := by
  obtain ⟨js, h1, h2, h3⟩ := h
  refine ⟨js, h1, fun i hi => ?_, fun i hi => ⟨(h3 i hi).1, (h3 i hi).2.1, fun j hj => ?_⟩⟩
  · obtain ⟨b, off, g1, g2, g3⟩ := h2 i hi
    exact ⟨b, off, g1, by omega, g3⟩
  · obtain ⟨b, off, g1, g2, g3⟩ := (h3 i hi).2.2 j hj
    exact ⟨b, off, g1, by omega, g3⟩

theorem LifeAt.lt {p eb : Nat} {r : ResD} {q : AskD} {w : World} (h : LifeAt p eb r q w) : p < w.heap.size ∧ eb < w.heap.size := ⟨block_lt h.1, block_lt (h.2.1 0)⟩

end Go.Proofs.Ytejadojilncbjab

namespace Go.Proofs.Ytejadojilncbjab
open Go.RowKit
set_option linter.unusedVariables false
attribute [local go_sem ↓] Go.wp_at_zero Go.wp_at_succ

/-- What a life asks next, in memory. -/
def NextAt (p : Nat) (q : AskD) (w : World) : Prop :=
  w.cell? ⟨p, 15, none⟩ = some (.int .i64 q.kind) ∧ w.cell? ⟨p, 16, none⟩ = some (.int .i64 q.cell) ∧ w.cell? ⟨p, 17, none⟩ = some (.int .i64 q.frm) ∧ w.cell? ⟨p, 18, none⟩ = some (.int .i64 q.to)
theorem LifeR.next {E : Env} {H : Hd} {B p eb : Nat} {w : World} {s : LS} (h : LifeR E H B p eb w s) : NextAt p s.next w := by
  obtain ⟨la, lc, hb, _⟩ := h.life
  refine ⟨?_, ?_, ?_, ?_⟩ <;> rw [hb.cell] <;> rfl
theorem NextAt.lt {p : Nat} {q : AskD} {w : World} (h : NextAt p q w) : p < w.heap.size := block_lt h.1
theorem NextAt.up {p n : Nat} {q : AskD} {w w' : World} (h : NextAt p q w) (hb : Below n w w') (hp : p < n) : NextAt p q w' := by
  have e : ∀ o, w'.cell? ⟨p, o, none⟩ = w.cell? ⟨p, o, none⟩ := fun o => World.cell?_of_block (hb.block p hp)
  exact ⟨(e _).trans h.1, (e _).trans h.2.1, (e _).trans h.2.2.1, (e _).trans h.2.2.2⟩

end Go.Proofs.Ytejadojilncbjab

namespace Go.Proofs.Ytejadojilncbjab
open Go.RowKit
set_option linter.unusedVariables false
attribute [local go_sem ↓] Go.wp_at_zero Go.wp_at_succ

theorem PicksIn.up2 {w w' : World} {a : Option Addr} {l : List PickD} (h : PicksIn w w.heap.size a l) (hb : Below w.heap.size w w') : PicksIn w' w'.heap.size a l := by
  intro i hi
  obtain ⟨b, off, h1, h2, h3, h4⟩ := h.up hb i hi
  exact ⟨b, off, h1, Nat.lt_of_lt_of_le h2 hb.size, h3, h4⟩
theorem JobsRep.up2 {w w' : World} {a : Option Addr} {l : List (Int × List InsD)} (h : JobsRep w w.heap.size a l) (hb : Below w.heap.size w w') : JobsRep w' w'.heap.size a l := (h.up hb).mono hb.size

end Go.Proofs.Ytejadojilncbjab

namespace Go.Proofs.Ytejadojilncbjab
open Go.ChangeShapes Go.WideShapes Go.ChangeAt Go.RowKit Go.Deep
set_option linter.unusedVariables false

theorem ownP : ownKnob Try.prog.godebug = none := by kernel_rfl
theorem laidOutP : laidOutB Try.prog = true := by kernel_rfl
/-- The bulk of what was read bounds the picks. -/
theorem bulk_one {H : Type} (d : DataW H) : 1 ≤ Rows.uptoBulk d := by
  cases d with
  | lit l => cases l <;> simp [Rows.uptoBulk]
  | nil => simp [Rows.uptoBulk]
  | ptr d => simp [Rows.uptoBulk]
  | slice elems spare => simp [Rows.uptoBulk]
  | agg parts => simp [Rows.uptoBulk]
  | iface t d => simp [Rows.uptoBulk]
  | map entries => simp [Rows.uptoBulk]
  | held h => simp [Rows.uptoBulk]
theorem bulk_len {H : Type} : ∀ (l : List (DataW H)), l.length ≤ Rows.uptoBulkAll l
  | [] => by simp [Rows.uptoBulkAll]
  | x :: r => by
    have := bulk_one x
    have := bulk_len r
    simp only [Rows.uptoBulkAll, List.length_cons]
    omega

section
variable {H : Type} {enc : TypeId × Value → H} {w : World} {spare : Nat → Bool} {held : Bool}

end

end Go.Proofs.Ytejadojilncbjab
