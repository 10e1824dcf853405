import Derived.Test.YtejadojilncbjaaGreatH02
import Derived.Test.YtejadojilncbjaaGreatH01
namespace Go.Proofs.YtejadojilncbjaaGreat
open Go.RowKit
set_option linter.unusedVariables false

/-! A part of a block: a struct within a struct, or a row of a slice of structs. -/

/-- From place z on lies L; ahead of it A, behind it B. -/
def Seg (w : World) (p z : Nat) (T : TypeId) (A B L : List Value) : Prop := A.length = z ∧ Blk w p T (A ++ (L ++ B)).toArray

theorem Seg.cell {w : World} {p z : Nat} {T : TypeId} {A B L : List Value} (h : Seg w p z T A B L) (i : Nat) (hi : i < L.length) : w.cell? ⟨p, z + i, none⟩ = L[i]? := by
  rw [h.2.cell, List.getElem?_toArray, ← h.1, List.getElem?_append_right (by omega), Nat.add_sub_cancel_left, List.getElem?_append_left hi]
theorem Seg.frozen {w : World} {p z : Nat} {T : TypeId} {A B L : List Value} (h : Seg w p z T A B L) : ∀ i, w.frozen? ⟨p, i, none⟩ = false := h.2.frozen
theorem Seg.lt {w : World} {p z : Nat} {T : TypeId} {A B L : List Value} (h : Seg w p z T A B L) : p < w.heap.size := h.2.lt
theorem Seg.below {w w' : World} {p z : Nat} {T : TypeId} {A B L : List Value} {n : Nat} (h : Seg w p z T A B L) (hb : Below n w w') (hp : p < n) : Seg w' p z T A B L := ⟨h.1, h.2.below hb hp⟩
theorem Seg.only {w w' : World} {p z : Nat} {T : TypeId} {A B L : List Value} {q : Nat} (h : Seg w p z T A B L) (hb : Only q w w') (hp : p ≠ q) : Seg w' p z T A B L := ⟨h.1, h.2.only hb hp⟩
theorem Seg.drewN {w : World} {p z : Nat} {T : TypeId} {A B L : List Value} (h : Seg w p z T A B L) (n : Nat) : Seg (w.drewN n) p z T A B L := h
theorem Seg.set {w : World} {p z : Nat} {T : TypeId} {A B L : List Value} (h : Seg w p z T A B L) (i : Nat) (hi : i < L.length) (v : Value) : Seg (w.setCell ⟨p, z + i, none⟩ v) p z T A B (L.set i v) := by
  refine ⟨h.1, h.2.set.congr ?_⟩
  rw [List.setIfInBounds_toArray, ← h.1, List.set_append_right _ _ (by omega), Nat.add_sub_cancel_left, List.set_append_left _ _ hi]
theorem Seg.congr {w : World} {p z : Nat} {T : TypeId} {A B L : List Value} {L' : List Value} (h : Seg w p z T A B L) (e : L = L') : Seg w p z T A B L' := e ▸ h
/-- A part of the part, and back. -/
theorem Seg.part {w : World} {p z : Nat} {T : TypeId} {A B L : List Value} {L1 L2 L3 : List Value} (h : Seg w p z T A B (L1 ++ (L2 ++ L3))) (k : Nat) (hk : L1.length = k) : Seg w p (z + k) T (A ++ L1) (L3 ++ B) L2 :=
  ⟨by rw [List.length_append, h.1, hk], h.2.congr (by simp)⟩
theorem Seg.whole {w : World} {p z : Nat} {T : TypeId} {A B L : List Value} {L1 L2 L3 : List Value} {k : Nat} (h : Seg w p (z + k) T (A ++ L1) (L3 ++ B) L2) (hz : A.length = z) : Seg w p z T A B (L1 ++ (L2 ++ L3)) :=
  ⟨hz, h.2.congr (by simp)⟩
theorem Seg.mach {w : World} {p z : Nat} {T : TypeId} {A B L : List Value} {m : MS} (h : Seg w p z T A B (mArr m).toList) : MAt w p z T A B m := h
theorem MAt.seg {w : World} {p z : Nat} {T : TypeId} {A B L : List Value} {m : MS} (h : MAt w p z T A B m) : Seg w p z T A B (mArr m).toList := h
theorem Blk.seg {w : World} {p z : Nat} {T : TypeId} {A B L : List Value} {cs : List Value} (h : Blk w p T cs.toArray) : Seg w p 0 T [] [] cs := ⟨rfl, h.congr (by simp)⟩
theorem Seg.blk {w : World} {p z : Nat} {T : TypeId} {A B L : List Value} (h : Seg w p 0 T [] [] L) : Blk w p T L.toArray := h.2.congr (by simp)
/-! Rows of one length. -/

theorem rows_len {n : Nat} : ∀ {R : List (List Value)}, (∀ L ∈ R, L.length = n) → R.flatten.length = R.length * n
  | [], _ => by simp
  | L :: R, h => by
    rw [List.flatten_cons, List.length_append, h L (List.mem_cons_self ..), rows_len (fun L' hL => h L' (List.mem_cons_of_mem _ hL)), List.length_cons, Nat.succ_mul]
    omega

theorem rows_split {R : List (List Value)} {i : Nat} (hi : i < R.length) : R.flatten = (R.take i).flatten ++ (R[i] ++ (R.drop (i + 1)).flatten) := by
  have h : R = R.take i ++ (R[i] :: R.drop (i + 1)) := by
    rw [← List.drop_eq_getElem_cons hi, List.take_append_drop]
  have e : R.flatten = (R.take i ++ (R[i] :: R.drop (i + 1))).flatten := congrArg List.flatten h
  rw [e, List.flatten_append, List.flatten_cons]

end Go.Proofs.YtejadojilncbjaaGreat

namespace Go.Proofs.YtejadojilncbjaaGreat
open Go.RowKit
set_option linter.unusedVariables false

/-- What a call leaves as it was: every block below B but two; every block of another type than those listed. -/
structure Kp (chg : List TypeId) (B p eb : Nat) (w w' : World) : Prop where
  os : w'.os = w.os
  tape : w'.tape = w.tape
  output : w'.output = w.output
  size : w.heap.size ≤ w'.heap.size
  low : ∀ k, k < B → k ≠ p → k ≠ eb → w'.heap[k]? = w.heap[k]?
  tag : ∀ (k : Nat) (t : TypeId) (cs : Array Value) (fr : Nat × Nat), w.heap[k]? = some (.cells cs t fr) → t ∉ chg → w'.heap[k]? = some (.cells cs t fr)

theorem Kp.refl (chg : List TypeId) (B p eb : Nat) (w : World) : Kp chg B p eb w w := ⟨rfl, rfl, rfl, Nat.le_refl _, fun _ _ _ _ => rfl, fun _ _ _ _ h _ => h⟩
theorem Kp.trans {chg : List TypeId} {B p eb : Nat} {a b c : World} (h : Kp chg B p eb a b) (k : Kp chg B p eb b c) : Kp chg B p eb a c :=
  ⟨k.os.trans h.os, k.tape.trans h.tape, k.output.trans h.output, Nat.le_trans h.size k.size, fun i hi h1 h2 => (k.low i hi h1 h2).trans (h.low i hi h1 h2), fun i t cs fr hi ht => k.tag i t cs fr (h.tag i t cs fr hi ht) ht⟩
theorem Kp.wide {chg chg' : List TypeId} {B p eb : Nat} {w w' : World} (h : Kp chg B p eb w w') (hs : ∀ t ∈ chg, t ∈ chg') : Kp chg' B p eb w w' :=
  ⟨h.os, h.tape, h.output, h.size, h.low, fun i t cs fr hi ht => h.tag i t cs fr hi (fun hm => ht (hs t hm))⟩
theorem lt_of_heap {w : World} {k : Nat} {o : Obj} (h : w.heap[k]? = some o) : k < w.heap.size := by
  rcases Nat.lt_or_ge k w.heap.size with h' | h'
  · exact h'
  · rw [Array.getElem?_eq_none h'] at h; cases h
theorem Kp.below {chg : List TypeId} {B p eb : Nat} {w w' : World} (h : Below w.heap.size w w') (hB : B ≤ w.heap.size) : Kp chg B p eb w w' :=
  ⟨h.os, h.tape, h.output, h.size, fun k hk _ _ => h.block k (by omega), fun k t cs fr hk _ => (h.block k (lt_of_heap hk)).trans hk⟩
theorem Kp.only {chg : List TypeId} {B p eb q : Nat} {w w' : World} {t : TypeId} {cs : Array Value} (h : Only q w w') (hB : B ≤ w.heap.size) (hq : Blk w q t cs) (hc : t ∈ chg) (hl : q = p ∨ q = eb ∨ B ≤ q) : Kp chg B p eb w w' :=
  ⟨h.os, h.tape, h.output, h.size, fun k hk h1 h2 => h.block k (by omega) (by omega), fun k u ds fr hk hu => (h.block k (lt_of_heap hk) (fun e => by
    subst e
    have : w.heap[k]? = some (.cells cs t (0, 0)) := hq
    rw [this] at hk
    simp at hk
    exact hu (hk.2.1 ▸ hc))).trans hk⟩
/-- Behind a store into, or an append onto, a row of the call's own. -/
theorem Kp.grown {chg : List TypeId} {B p eb : Nat} {w w' : World} {e : TypeId} {size n : Nat} {v : Value} {xs : List Value} (h : w.grownBy w' v.ownBlock) (hB : B ≤ w.heap.size) (hv : w.ownsRow B e size v n xs) (hc : e ∈ chg) : Kp chg B p eb w w' := by
  have hlt := hv.lt
  refine ⟨h.os, h.tape, h.output, h.size, fun k hk h1 h2 => h.block k (by omega) (fun e' => by have := (hlt k e'.symm).1; omega), fun k u ds fr hk hu => ?_⟩
  refine (h.block k (lt_of_heap hk) (fun e' => ?_)).trans hk
  rcases hv.2 with ⟨rfl, _⟩ | ⟨g, cap, cur, rfl, _, hg, _⟩
  · simp [Value.ownBlock] at e'
  · simp [Value.ownBlock] at e'
    subst e'
    rw [hg] at hk
    simp at hk
    exact hu (hk.2.1 ▸ hc)
theorem Kp.drewN {chg : List TypeId} {B p eb : Nat} {w w' : World} (h : Kp chg B p eb w w') (n : Nat) : Kp chg B p eb w (w'.drewN n) := ⟨h.os, h.tape, h.output, h.size, h.low, h.tag⟩
theorem Kp.drew {chg : List TypeId} {B p eb : Nat} {w w' : World} (h : Kp chg B p eb w w') : Kp chg B p eb w w'.drew := ⟨h.os, h.tape, h.output, h.size, h.low, h.tag⟩

theorem Blk.keep {chg : List TypeId} {B p eb k : Nat} {w w' : World} {t : TypeId} {cs : Array Value} (h : Blk w k t cs) (hk : Kp chg B p eb w w') (ht : t ∉ chg) : Blk w' k t cs := hk.tag k t cs (0, 0) h ht
theorem ownsRow_keep {chg : List TypeId} {B p eb base : Nat} {w w' : World} {e : TypeId} {size n : Nat} {v : Value} {xs : List Value} (h : w.ownsRow base e size v n xs) (hk : Kp chg B p eb w w') (ht : e ∉ chg) : w'.ownsRow base e size v n xs := by
  refine ⟨h.1, ?_⟩
  rcases h.2 with hn | ⟨g, cap, cur, rfl, hb, hg, rest⟩
  · exact .inl hn
  · exact .inr ⟨g, cap, cur, rfl, hb, hk.tag _ _ _ _ hg ht, rest⟩

/-- A slice that leads below B, and neither to p nor to eb. -/
def Far (B p eb : Nat) (a : Option Addr) : Prop := ∀ b off, a = some ⟨b, off, none⟩ → b < B ∧ b ≠ p ∧ b ≠ eb
/-- .. where the code has an instruction. -/
def FarC (B p eb : Nat) (a : Option Addr) (is : List InsD) : Prop := is ≠ [] → Far B p eb a

theorem cell_low {chg : List TypeId} {B p eb b o : Nat} {w w' : World} (hk : Kp chg B p eb w w') (h : b < B ∧ b ≠ p ∧ b ≠ eb) : w'.cell? ⟨b, o, none⟩ = w.cell? ⟨b, o, none⟩ :=
  World.cell?_of_block (w := w) (hk.low b h.1 h.2.1 h.2.2)

theorem Ints.keep {chg : List TypeId} {B p eb B' : Nat} {w w' : World} {a : Option Addr} {zs : List Int} (h : Ints w B' a zs) (hf : Far B p eb a) (hk : Kp chg B p eb w w') : Ints w' B' a zs := by
  intro i hi
  obtain ⟨b, off, ha, hlt, hc⟩ := h i hi
  exact ⟨b, off, ha, hlt, (cell_low hk (hf b off ha)).trans hc⟩
theorem CodeIn.keep {chg : List TypeId} {B p eb B' : Nat} {w w' : World} {a : Option Addr} {is : List InsD} (h : CodeIn w B' a is) (hf : FarC B p eb a is) (hk : Kp chg B p eb w w') : CodeIn w' B' a is := by
  intro i hi
  obtain ⟨b, off, ha, hlt, h0, h1, h2, h3⟩ := h i hi
  have hl := hf (fun e => by simp [e] at hi) b off ha
  exact ⟨b, off, ha, hlt, (cell_low hk hl).trans h0, (cell_low hk hl).trans h1, (cell_low hk hl).trans h2, (cell_low hk hl).trans h3⟩
theorem JobsIn.keep {chg : List TypeId} {B p eb B' : Nat} {w w' : World} {a : Option Addr} {js : List JobD} (h : JobsIn w B' a js) (hf : js ≠ [] → Far B p eb a) (hk : Kp chg B p eb w w') : JobsIn w' B' a js := by
  intro i hi
  obtain ⟨b, off, ha, hlt, h0, h1⟩ := h i hi
  have hl := hf (fun e => by simp [e] at hi) b off ha
  exact ⟨b, off, ha, hlt, (cell_low hk hl).trans h0, (cell_low hk hl).trans h1⟩

/-- What of a life lies still. -/
structure Stat (E : Env) (H : Hd) (B p eb : Nat) (w : World) : Prop where
  size : B ≤ w.heap.size
  seen : Ints w B H.sa E.seen
  seenF : Far B p eb H.sa
  draws : Ints w B H.da E.draws
  drawsF : Far B p eb H.da
  whens : Ints w B H.wa E.whens
  whensF : Far B p eb H.wa
  jobs : ∃ js : List JobD, js.length = E.jobs.length ∧ JobsIn w B H.ja js ∧ (∀ i, i < js.length → (jobAt js i).t = (E.jobs.getD i (0, [])).1 ∧ (jobAt js i).len = (E.jobs.getD i (0, [])).2.length ∧
    CodeIn w B (jobAt js i).a (E.jobs.getD i (0, [])).2 ∧ FarC B p eb (jobAt js i).a (E.jobs.getD i (0, [])).2)
  jobsF : E.jobs ≠ [] → Far B p eb H.ja

theorem Stat.keep {chg : List TypeId} {E : Env} {H : Hd} {B p eb : Nat} {w w' : World} (h : Stat E H B p eb w) (hk : Kp chg B p eb w w') : Stat E H B p eb w' := by
  obtain ⟨js, h1, h2, h3⟩ := h.jobs
  exact ⟨Nat.le_trans h.size hk.size, h.seen.keep h.seenF hk, h.seenF, h.draws.keep h.drawsF hk, h.drawsF, h.whens.keep h.whensF hk, h.whensF,
    ⟨js, h1, h2.keep (fun e => h.jobsF (fun e2 => e (List.eq_nil_of_length_eq_zero (by rw [h1, e2]; rfl)))) hk, fun i hi => ⟨(h3 i hi).1, (h3 i hi).2.1, (h3 i hi).2.2.1.keep (h3 i hi).2.2.2 hk, (h3 i hi).2.2.2⟩⟩, h.jobsF⟩

def noteCells (n : NoteD) : List Value := [.int .i64 n.op, .int .i64 n.addr, .int .i64 n.val]
def attCells (a : AttD) (nv : Value) : List Value := [.int .i64 a.thread, .int .i64 a.job, .int .i64 a.start, .int .i64 a.fin, .int .i64 a.valid, .int .i64 a.stamp, .int .i64 a.fate, nv]
def rowCells (L : List AttD) (nvs : List Value) : List Value := (L.zip nvs).flatMap fun q => attCells q.1 q.2

/-- The attempts in memory: a row of eight cells each, the notes of each in a row of their own. -/
def ListRep (w : World) (B : Nat) (la : Option Addr) (lc : Nat) (L : List AttD) : Prop :=
  ∃ nvs : List Value, nvs.length = L.length ∧ w.ownsRow B 63 8 (.slice la L.length lc) L.length (rowCells L nvs) ∧
    (∀ (i : Nat) (a : AttD) (nv : Value), L[i]? = some a → nvs[i]? = some nv → w.ownsRow B 95 3 nv a.notes.length (a.notes.flatMap noteCells)) ∧
    (∀ (i j : Nat) (u v : Value) (k : Nat), nvs[i]? = some u → nvs[j]? = some v → u.ownBlock = some k → v.ownBlock = some k → i = j)

theorem ListRep.keep {chg : List TypeId} {B p eb : Nat} {w w' : World} {la : Option Addr} {lc : Nat} {L : List AttD} (h : ListRep w B la lc L) (hk : Kp chg B p eb w w') (h1 : 63 ∉ chg) (h2 : 95 ∉ chg) : ListRep w' B la lc L := by
  obtain ⟨nvs, hl, ho, hn, hd⟩ := h
  exact ⟨nvs, hl, ownsRow_keep ho hk h1, fun i a nv hi hj => ownsRow_keep (hn i a nv hi hj) hk h2, hd⟩

def resCells (r : ResD) : List Value := [.int .i64 r.fate, .int .i64 r.r0, .int .i64 r.r1, .int .i64 r.r2, .int .i64 r.r3]

/-- A life in memory. -/
structure LifeR (E : Env) (H : Hd) (B p eb : Nat) (w : World) (s : LS) : Prop where
  stat : Stat E H B p eb w
  life : ∃ la lc, Blk w p 88 (lifeArr E H la lc s) ∧ ListRep w B la lc s.list
  ends : s.ends = [] ∨ (H.ea = some ⟨eb, 0, none⟩ ∧ Blk w eb 84 (s.ends.flatMap resCells).toArray)
  pB : p < B
  eB : eb < B
  pe : p ≠ eb

theorem LifeR.keep {chg : List TypeId} {E : Env} {H : Hd} {B p eb : Nat} {w w' : World} {s : LS} (h : LifeR E H B p eb w s) (hk : Kp chg B p eb w w') (h0 : 88 ∉ chg) (h1 : 63 ∉ chg) (h2 : 95 ∉ chg) (h3 : 84 ∉ chg) : LifeR E H B p eb w' s := by
  obtain ⟨la, lc, hb, hl⟩ := h.life
  exact ⟨h.stat.keep hk, ⟨la, lc, hb.keep hk h0, hl.keep hk h1 h2⟩, h.ends.imp id (fun ⟨a, b⟩ => ⟨a, b.keep hk h3⟩), h.pB, h.eB, h.pe⟩

def entCells (e : EntD) : List Value := [.int .i64 e.what, .int .i64 e.val]

def tryArr (ca : Option Addr) (cc : Nat) (ra : Option Addr) (rc : Nat) (wa : Option Addr) (wc : Nat) (ha : Option Addr) (hc : Nat) (x : TS) : Array Value :=
  #[.slice ca x.code.length cc, .int .i64 (x.regs.getD 0 0), .int .i64 (x.regs.getD 1 0), .int .i64 (x.regs.getD 2 0), .int .i64 (x.regs.getD 3 0), .int .i64 x.place, .int .i64 x.begun, .int .i64 x.valid,
    .slice ra x.reads.length rc, .slice wa x.writes.length wc, .slice ha x.held.length hc, .bool x.inGate, .int .i64 x.way]

/-- An attempt in memory. -/
structure TryR (B p eb xb : Nat) (w : World) (x : TS) : Prop where
  blk : ∃ ca cc ra rc wa wc ha hc, Blk w xb 145 (tryArr ca cc ra rc wa wc ha hc x) ∧ CodeIn w B ca x.code ∧ FarC B p eb ca x.code ∧
    w.ownsRow B 160 2 (.slice ra x.reads.length rc) x.reads.length (x.reads.flatMap entCells) ∧ w.ownsRow B 160 2 (.slice wa x.writes.length wc) x.writes.length (x.writes.flatMap entCells) ∧
    w.ownsRow B 3 1 (.slice ha x.held.length hc) x.held.length (x.held.map (.int .i64 ·)) ∧ (∀ k, (Value.slice ra x.reads.length rc).ownBlock = some k → (Value.slice wa x.writes.length wc).ownBlock ≠ some k)
  xB : B ≤ xb
  regs : x.regs.length = 4

theorem TryR.keep {chg : List TypeId} {B p eb xb : Nat} {w w' : World} {x : TS} (h : TryR B p eb xb w x) (hk : Kp chg B p eb w w') (h0 : 145 ∉ chg) (h1 : 160 ∉ chg) (h2 : 3 ∉ chg) : TryR B p eb xb w' x := by
  obtain ⟨ca, cc, ra, rc, wa, wc, ha, hc, hb, hcd, hcf, h3, h4, h5, h6⟩ := h.blk
  exact ⟨⟨ca, cc, ra, rc, wa, wc, ha, hc, hb.keep hk h0, hcd.keep hcf hk, hcf, ownsRow_keep h3 hk h1, ownsRow_keep h4 hk h1, ownsRow_keep h5 hk h2, h6⟩, h.xB, h.regs⟩

end Go.Proofs.YtejadojilncbjaaGreat

namespace Go.Proofs.YtejadojilncbjaaGreat
open Go.RowKit
set_option linter.unusedVariables false
attribute [local go_sem ↓] Go.wp_at_zero Go.wp_at_succ

/-! The program's cells. -/

theorem version_any (s : Int) (w : World) (h1 : 0 ≤ s) (h2 : s ≤ 1000) : Calls Tryz.prog 126 #[.int .i64 s] w fun e w' => e = .returned (.int .i64 (hVer s)) ∧ w' = w := by
  have e1 : IntKind.i64.wrap (3 + s) = 3 + s := wrapP _ (by omega) (by omega)
  go_enter Tryz.func126, Tryz.ntmps126
  go_wp2
  go_ret
  exact ⟨rfl, rfl⟩

set_option maxHeartbeats 1000000 in
theorem owner_any (c : Cfg) (K : Cx) (hK : K.c = c) (s : Int) (w : World) (h1 : 0 ≤ s) (h2 : s ≤ 1000) (g1 : 0 ≤ c.s) (g2 : c.s ≤ 1000) :
    Calls Tryz.prog 132 #[.agg #[.int .i64 c.t, .int .i64 c.wd, .int .i64 c.s, .int .i64 c.g, .int .i64 c.r, .int .i64 c.cp, .int .i64 c.f], .int .i64 s] w fun e w' => e = .returned (.int .i64 (hOwn K s)) ∧ Below w.heap.size w w' := by
  have e1 : IntKind.i64.wrap (3 + c.s) = 3 + c.s := wrapP _ (by omega) (by omega)
  have e2 : IntKind.i64.wrap (3 + c.s + s) = 3 + c.s + s := wrapP _ (by omega) (by omega)
  unfold hOwn
  rw [hK]
  clear hK
  go_enter Tryz.func132, Tryz.ntmps132
  go_wp2
  go_ret
  exact ⟨rfl, (Below.refl _ _).alloc (Nat.le_refl _) _⟩

set_option maxHeartbeats 1000000 in
theorem status_any (c : Cfg) (K : Cx) (hK : K.c = c) (s : Int) (w : World) (h1 : -1 ≤ s) (h2 : s ≤ 1000) (g1 : 0 ≤ c.s) (g2 : c.s ≤ 1000) :
    Calls Tryz.prog 168 #[.agg #[.int .i64 c.t, .int .i64 c.wd, .int .i64 c.s, .int .i64 c.g, .int .i64 c.r, .int .i64 c.cp, .int .i64 c.f], .int .i64 s] w fun e w' => e = .returned (.int .i64 (hSta K s)) ∧ Below w.heap.size w w' := by
  have e0 : IntKind.i64.wrap (2 * c.s) = 2 * c.s := wrapP _ (by omega) (by omega)
  have e1 : IntKind.i64.wrap (3 + 2 * c.s) = 3 + 2 * c.s := wrapP _ (by omega) (by omega)
  have e2 : IntKind.i64.wrap (3 + 2 * c.s + s) = 3 + 2 * c.s + s := wrapP _ (by omega) (by omega)
  unfold hSta
  rw [hK]
  clear hK
  go_enter Tryz.func168, Tryz.ntmps168
  go_wp2
  go_ret
  exact ⟨rfl, (Below.refl _ _).alloc (Nat.le_refl _) _⟩

set_option maxHeartbeats 1000000 in
theorem wordCell_any (c : Cfg) (K : Cx) (hK : K.c = c) (s : Int) (w : World) (h1 : 0 ≤ s) (h2 : s ≤ 1000) (g1 : 0 ≤ c.s) (g2 : c.s ≤ 1000) (t1 : 0 ≤ c.t) (t2 : c.t ≤ 1000) :
    Calls Tryz.prog 90 #[.agg #[.int .i64 c.t, .int .i64 c.wd, .int .i64 c.s, .int .i64 c.g, .int .i64 c.r, .int .i64 c.cp, .int .i64 c.f], .int .i64 s] w fun e w' => e = .returned (.int .i64 (hWrd K s)) ∧ Below w.heap.size w w' := by
  have e0 : IntKind.i64.wrap (2 * c.s) = 2 * c.s := wrapP _ (by omega) (by omega)
  have e1 : IntKind.i64.wrap (3 + 2 * c.s) = 3 + 2 * c.s := wrapP _ (by omega) (by omega)
  have e2 : IntKind.i64.wrap (3 + 2 * c.s + c.t) = 3 + 2 * c.s + c.t := wrapP _ (by omega) (by omega)
  have e3 : IntKind.i64.wrap (3 + 2 * c.s + c.t + s) = 3 + 2 * c.s + c.t + s := wrapP _ (by omega) (by omega)
  unfold hWrd
  rw [hK]
  clear hK
  go_enter Tryz.func90, Tryz.ntmps90
  go_wp2
  go_ret
  exact ⟨rfl, (Below.refl _ _).alloc (Nat.le_refl _) _⟩

end Go.Proofs.YtejadojilncbjaaGreat

namespace Go.Proofs.YtejadojilncbjaaGreat
open Go.RowKit
set_option linter.unusedVariables false
attribute [local go_sem ↓] Go.wp_at_zero Go.wp_at_succ

/-! The program's thread in memory. -/

/-- Where its lists lie. -/
structure Ls where
  ma : Option Addr
  mc : Nat
  ra : Option Addr
  rc : Nat
  wa : Option Addr
  wc : Nat
  ha : Option Addr
  hc : Nat
  na : Option Addr
  nc : Nat
  sa : Option Addr
  sc : Nat

def tArr (t : PT) (L : Ls) : List Value :=
  [.int .i64 t.c.t, .int .i64 t.c.wd, .int .i64 t.c.s, .int .i64 t.c.g, .int .i64 t.c.r, .int .i64 t.c.cp, .int .i64 t.c.f,
    .int .i64 t.num, .slice L.ma t.mine.length L.mc, .int .i64 t.cur, .slice L.sa t.res.length L.sc, .int .i64 t.rank, .int .i64 t.fails, .int .i64 t.rest, .int .i64 t.step,
    .int .i64 t.order.kind, .int .i64 t.order.cell, .int .i64 t.order.frm, .int .i64 t.order.to,
    .int .i64 t.aTh, .int .i64 t.aJob, .int .i64 t.aStart, .int .i64 t.aEnd, .int .i64 t.valid, .int .i64 t.aStamp, .int .i64 t.aFate, .slice L.na t.notes.length L.nc,
    .int .i64 (t.m.regs.getD 0 0), .int .i64 (t.m.regs.getD 1 0), .int .i64 (t.m.regs.getD 2 0), .int .i64 (t.m.regs.getD 3 0), .int .i64 t.m.place, .int .i64 t.m.begun, .int .i64 t.m.into,
    .int .i64 t.turn.fate, .int .i64 t.turn.op, .int .i64 t.turn.addr, .int .i64 t.turn.val,
    .slice L.ra t.reads.length L.rc, .slice L.wa t.writes.length L.wc, .slice L.ha t.held.length L.hc,
    .int .i64 t.version, .int .i64 t.value, .int .i64 t.rival, .int .i64 t.wayTo, .int .i64 t.clock, .int .i64 t.at_]

/-- The thread lies at place z of block p. -/
def TAt (w : World) (p z : Nat) (A B : List Value) (t : PT) (L : Ls) : Prop := Seg w p z 119 A B (tArr t L)

theorem TAt.cell {w : World} {p z : Nat} {A B : List Value} {t : PT} {L : Ls} (h : TAt w p z A B t L) (i : Nat) (hi : i < 47) : w.cell? ⟨p, z + i, none⟩ = (tArr t L)[i]? := Seg.cell h i hi
theorem TAt.set {w : World} {p z : Nat} {A B : List Value} {t t' : PT} {L L' : Ls} (h : TAt w p z A B t L) (i : Nat) (hi : i < 47) (v : Value) (e : (tArr t L).set i v = tArr t' L') : TAt (w.setCell ⟨p, z + i, none⟩ v) p z A B t' L' :=
  (Seg.set h i hi v).congr e
theorem TAt.froz {w : World} {p z : Nat} {A B : List Value} {t : PT} {L : Ls} (h : TAt w p z A B t L) (i : Nat) : w.frozen? ⟨p, i, none⟩ = false := Seg.frozen h i
theorem TAt.lt {w : World} {p z : Nat} {A B : List Value} {t : PT} {L : Ls} (h : TAt w p z A B t L) : p < w.heap.size := Seg.lt h
theorem TAt.below {w w' : World} {p z : Nat} {A B : List Value} {t : PT} {L : Ls} (h : TAt w p z A B t L) (hb : Below w.heap.size w w') : TAt w' p z A B t L := Seg.below h hb (Seg.lt h)
theorem TAt.drewN {w : World} {p z : Nat} {A B : List Value} {t : PT} {L : Ls} (h : TAt w p z A B t L) (n : Nat) : TAt (w.drewN n) p z A B t L := Seg.drewN h n

section
variable {w : World} {p z : Nat} {A B : List Value} {t : PT} {L : Ls}
theorem TAt.cT (h : TAt w p z A B t L) : w.cell? ⟨p, z, none⟩ = some (.int .i64 t.c.t) := Seg.cell h 0 (show 0 < 47 by decide)
theorem TAt.cWd (h : TAt w p z A B t L) : w.cell? ⟨p, z + 1, none⟩ = some (.int .i64 t.c.wd) := h.cell 1 (by decide)
theorem TAt.cS (h : TAt w p z A B t L) : w.cell? ⟨p, z + 2, none⟩ = some (.int .i64 t.c.s) := h.cell 2 (by decide)
theorem TAt.cG (h : TAt w p z A B t L) : w.cell? ⟨p, z + 3, none⟩ = some (.int .i64 t.c.g) := h.cell 3 (by decide)
theorem TAt.cR (h : TAt w p z A B t L) : w.cell? ⟨p, z + 4, none⟩ = some (.int .i64 t.c.r) := h.cell 4 (by decide)
theorem TAt.cCp (h : TAt w p z A B t L) : w.cell? ⟨p, z + 5, none⟩ = some (.int .i64 t.c.cp) := h.cell 5 (by decide)
theorem TAt.cF (h : TAt w p z A B t L) : w.cell? ⟨p, z + 6, none⟩ = some (.int .i64 t.c.f) := h.cell 6 (by decide)
theorem TAt.cNum (h : TAt w p z A B t L) : w.cell? ⟨p, z + 7, none⟩ = some (.int .i64 t.num) := h.cell 7 (by decide)
theorem TAt.cCur (h : TAt w p z A B t L) : w.cell? ⟨p, z + 9, none⟩ = some (.int .i64 t.cur) := h.cell 9 (by decide)
theorem TAt.cRank (h : TAt w p z A B t L) : w.cell? ⟨p, z + 11, none⟩ = some (.int .i64 t.rank) := h.cell 11 (by decide)
theorem TAt.cFails (h : TAt w p z A B t L) : w.cell? ⟨p, z + 12, none⟩ = some (.int .i64 t.fails) := h.cell 12 (by decide)
theorem TAt.cRest (h : TAt w p z A B t L) : w.cell? ⟨p, z + 13, none⟩ = some (.int .i64 t.rest) := h.cell 13 (by decide)
theorem TAt.cStep (h : TAt w p z A B t L) : w.cell? ⟨p, z + 14, none⟩ = some (.int .i64 t.step) := h.cell 14 (by decide)
theorem TAt.cKind (h : TAt w p z A B t L) : w.cell? ⟨p, z + 15, none⟩ = some (.int .i64 t.order.kind) := h.cell 15 (by decide)
theorem TAt.cCell (h : TAt w p z A B t L) : w.cell? ⟨p, z + 15 + 1, none⟩ = some (.int .i64 t.order.cell) := h.cell 16 (by decide)
theorem TAt.cFrm (h : TAt w p z A B t L) : w.cell? ⟨p, z + 15 + 2, none⟩ = some (.int .i64 t.order.frm) := h.cell 17 (by decide)
theorem TAt.cTo (h : TAt w p z A B t L) : w.cell? ⟨p, z + 15 + 3, none⟩ = some (.int .i64 t.order.to) := h.cell 18 (by decide)
theorem TAt.cFate (h : TAt w p z A B t L) : w.cell? ⟨p, z + 19 + 15, none⟩ = some (.int .i64 t.turn.fate) := h.cell 34 (by decide)
theorem TAt.cOp (h : TAt w p z A B t L) : w.cell? ⟨p, z + 19 + 15 + 1, none⟩ = some (.int .i64 t.turn.op) := h.cell 35 (by decide)
theorem TAt.cAddr (h : TAt w p z A B t L) : w.cell? ⟨p, z + 19 + 15 + 2, none⟩ = some (.int .i64 t.turn.addr) := h.cell 36 (by decide)
theorem TAt.cVal (h : TAt w p z A B t L) : w.cell? ⟨p, z + 19 + 15 + 3, none⟩ = some (.int .i64 t.turn.val) := h.cell 37 (by decide)
theorem TAt.cValid (h : TAt w p z A B t L) : w.cell? ⟨p, z + 19 + 4, none⟩ = some (.int .i64 t.valid) := h.cell 23 (by decide)
theorem TAt.cVersion (h : TAt w p z A B t L) : w.cell? ⟨p, z + 19 + 22, none⟩ = some (.int .i64 t.version) := h.cell 41 (by decide)
theorem TAt.cValue (h : TAt w p z A B t L) : w.cell? ⟨p, z + 19 + 23, none⟩ = some (.int .i64 t.value) := h.cell 42 (by decide)
theorem TAt.cRival (h : TAt w p z A B t L) : w.cell? ⟨p, z + 19 + 24, none⟩ = some (.int .i64 t.rival) := h.cell 43 (by decide)
theorem TAt.cWay (h : TAt w p z A B t L) : w.cell? ⟨p, z + 19 + 25, none⟩ = some (.int .i64 t.wayTo) := h.cell 44 (by decide)
theorem TAt.cClock (h : TAt w p z A B t L) : w.cell? ⟨p, z + 19 + 26, none⟩ = some (.int .i64 t.clock) := h.cell 45 (by decide)
theorem TAt.cAt (h : TAt w p z A B t L) : w.cell? ⟨p, z + 19 + 27, none⟩ = some (.int .i64 t.at_) := h.cell 46 (by decide)
theorem TAt.cEnd (h : TAt w p z A B t L) : w.cell? ⟨p, z + 19 + 3, none⟩ = some (.int .i64 t.aEnd) := h.cell 22 (by decide)
theorem TAt.cStamp (h : TAt w p z A B t L) : w.cell? ⟨p, z + 19 + 5, none⟩ = some (.int .i64 t.aStamp) := h.cell 24 (by decide)
theorem TAt.cAFate (h : TAt w p z A B t L) : w.cell? ⟨p, z + 19 + 6, none⟩ = some (.int .i64 t.aFate) := h.cell 25 (by decide)
theorem TAt.cNotes (h : TAt w p z A B t L) : w.cell? ⟨p, z + 19 + 7, none⟩ = some (.slice L.na t.notes.length L.nc) := h.cell 26 (by decide)
theorem TAt.cRes (h : TAt w p z A B t L) : w.cell? ⟨p, z + 10, none⟩ = some (.slice L.sa t.res.length L.sc) := h.cell 10 (by decide)
theorem TAt.cMine (h : TAt w p z A B t L) : w.cell? ⟨p, z + 8, none⟩ = some (.slice L.ma t.mine.length L.mc) := h.cell 8 (by decide)
theorem TAt.cReads (h : TAt w p z A B t L) : w.cell? ⟨p, z + 19 + 19, none⟩ = some (.slice L.ra t.reads.length L.rc) := h.cell 38 (by decide)
theorem TAt.cWrites (h : TAt w p z A B t L) : w.cell? ⟨p, z + 19 + 20, none⟩ = some (.slice L.wa t.writes.length L.wc) := h.cell 39 (by decide)
theorem TAt.cHeld (h : TAt w p z A B t L) : w.cell? ⟨p, z + 19 + 21, none⟩ = some (.slice L.ha t.held.length L.hc) := h.cell 40 (by decide)
end

/-- What a call of the thread's leaves: nothing to tell, the thread as it is then, all other blocks as they were. -/
def DidT (p z : Nat) (A B : List Value) (t : PT) (L : Ls) (w : World) (e : Ending) (w' : World) : Prop := e = .returned (.tuple #[]) ∧ TAt w' p z A B t L ∧ Only p w w'

set_option maxHeartbeats 1000000 in
theorem t_load (p z : Nat) (A B : List Value) (t : PT) (L : Ls) (step cell : Int) (w : World) (hb : TAt w p z A B t L) :
    Calls Tryz.prog 103 #[.pointer (some ⟨p, z, none⟩), .int .i64 step, .int .i64 cell] w (DidT p z A B (yLoad step cell t) L w) := by
  have h13 := hb.cStep
  have h14 := hb.cKind
  have h15 := hb.cCell
  have h16 := hb.cFrm
  have h17 := hb.cTo
  have hf := hb.froz
  have HB : Hid (TAt w p z A B t L) := hb
  clear hb
  go_enter Tryz.func103, Tryz.ntmps103
  go_wp2
  go_end0
  exact ⟨rfl, ((((((HB.out).set (t' := { t with step := step }) 14 (by decide) _ rfl).set (t' := { t with step := step, order := ⟨1, t.order.cell, t.order.frm, t.order.to⟩ }) 15 (by decide) _ rfl).set (t' := { t with step := step, order := ⟨1, cell, t.order.frm, t.order.to⟩ }) 16 (by decide) _ rfl).set (t' := { t with step := step, order := ⟨1, cell, 0, t.order.to⟩ }) 17 (by decide) _ rfl).set (t' := { t with step := step, order := ⟨1, cell, 0, 0⟩ }) 18 (by decide) _ rfl), (((((Only.refl _ _).set).set).set).set).set⟩

set_option maxHeartbeats 1000000 in
theorem t_store (p z : Nat) (A B : List Value) (t : PT) (L : Ls) (step cell put : Int) (w : World) (hb : TAt w p z A B t L) :
    Calls Tryz.prog 145 #[.pointer (some ⟨p, z, none⟩), .int .i64 step, .int .i64 cell, .int .i64 put] w (DidT p z A B (yStore step cell put t) L w) := by
  have h13 := hb.cStep
  have h14 := hb.cKind
  have h15 := hb.cCell
  have h16 := hb.cFrm
  have h17 := hb.cTo
  have hf := hb.froz
  have HB : Hid (TAt w p z A B t L) := hb
  clear hb
  go_enter Tryz.func145, Tryz.ntmps145
  go_wp2
  go_end0
  exact ⟨rfl, ((((((HB.out).set (t' := { t with step := step }) 14 (by decide) _ rfl).set (t' := { t with step := step, order := ⟨2, t.order.cell, t.order.frm, t.order.to⟩ }) 15 (by decide) _ rfl).set (t' := { t with step := step, order := ⟨2, cell, t.order.frm, t.order.to⟩ }) 16 (by decide) _ rfl).set (t' := { t with step := step, order := ⟨2, cell, 0, t.order.to⟩ }) 17 (by decide) _ rfl).set (t' := { t with step := step, order := ⟨2, cell, 0, put⟩ }) 18 (by decide) _ rfl), (((((Only.refl _ _).set).set).set).set).set⟩

set_option maxHeartbeats 1000000 in
theorem t_swap (p z : Nat) (A B : List Value) (t : PT) (L : Ls) (step cell frm put : Int) (w : World) (hb : TAt w p z A B t L) :
    Calls Tryz.prog 131 #[.pointer (some ⟨p, z, none⟩), .int .i64 step, .int .i64 cell, .int .i64 frm, .int .i64 put] w (DidT p z A B (ySwap step cell frm put t) L w) := by
  have h13 := hb.cStep
  have h14 := hb.cKind
  have h15 := hb.cCell
  have h16 := hb.cFrm
  have h17 := hb.cTo
  have hf := hb.froz
  have HB : Hid (TAt w p z A B t L) := hb
  clear hb
  go_enter Tryz.func131, Tryz.ntmps131
  go_wp2
  go_end0
  exact ⟨rfl, ((((((HB.out).set (t' := { t with step := step }) 14 (by decide) _ rfl).set (t' := { t with step := step, order := ⟨3, t.order.cell, t.order.frm, t.order.to⟩ }) 15 (by decide) _ rfl).set (t' := { t with step := step, order := ⟨3, cell, t.order.frm, t.order.to⟩ }) 16 (by decide) _ rfl).set (t' := { t with step := step, order := ⟨3, cell, frm, t.order.to⟩ }) 17 (by decide) _ rfl).set (t' := { t with step := step, order := ⟨3, cell, frm, put⟩ }) 18 (by decide) _ rfl), (((((Only.refl _ _).set).set).set).set).set⟩

set_option maxHeartbeats 1000000 in
theorem t_take (p z : Nat) (A B : List Value) (t : PT) (L : Ls) (step cell : Int) (w : World) (hb : TAt w p z A B t L) :
    Calls Tryz.prog 166 #[.pointer (some ⟨p, z, none⟩), .int .i64 step, .int .i64 cell] w (DidT p z A B (yTake step cell t) L w) := by
  have h13 := hb.cStep
  have h14 := hb.cKind
  have h15 := hb.cCell
  have h16 := hb.cFrm
  have h17 := hb.cTo
  have hf := hb.froz
  have HB : Hid (TAt w p z A B t L) := hb
  clear hb
  go_enter Tryz.func166, Tryz.ntmps166
  go_wp2
  go_end0
  exact ⟨rfl, ((((((HB.out).set (t' := { t with step := step }) 14 (by decide) _ rfl).set (t' := { t with step := step, order := ⟨4, t.order.cell, t.order.frm, t.order.to⟩ }) 15 (by decide) _ rfl).set (t' := { t with step := step, order := ⟨4, cell, t.order.frm, t.order.to⟩ }) 16 (by decide) _ rfl).set (t' := { t with step := step, order := ⟨4, cell, 0, t.order.to⟩ }) 17 (by decide) _ rfl).set (t' := { t with step := step, order := ⟨4, cell, 0, 0⟩ }) 18 (by decide) _ rfl), (((((Only.refl _ _).set).set).set).set).set⟩

end Go.Proofs.YtejadojilncbjaaGreat

namespace Go.Proofs.YtejadojilncbjaaGreat
open Go.RowKit
set_option linter.unusedVariables false

/-- What is known of all that stays while a life is told. -/
structure EnvOk (E : Env) : Prop where
  cfg : cfgB E.c = true
  me0 : 0 ≤ E.me
  me3 : E.me ≤ 3
  len : E.seen.length ≤ 2 ^ 45
  dlen : E.draws.length = E.seen.length
  wlen : E.whens.length = E.seen.length
  vals : ∀ v ∈ E.seen, -1 ≤ v ∧ v ≤ 1125899906842624
  jobs : E.jobs.length ≤ 8
  codes : ∀ j ∈ E.jobs, j.2.length ≤ 20

theorem mAsk_list (E : Env) (s : LS) (q : AskD) : (mAsk E s q).2.list = s.list := by unfold mAsk; (repeat' split) <;> rfl
theorem mAsk_ends (E : Env) (s : LS) (q : AskD) : (mAsk E s q).2.ends = s.ends := by unfold mAsk; (repeat' split) <;> rfl
theorem mAsk_rank (E : Env) (s : LS) (q : AskD) : (mAsk E s q).2.rank = s.rank := by unfold mAsk; (repeat' split) <;> rfl
theorem mAsk_fails (E : Env) (s : LS) (q : AskD) : (mAsk E s q).2.fails = s.fails := by unfold mAsk; (repeat' split) <;> rfl
theorem mAsk_pos (E : Env) (s : LS) (q : AskD) (h : s.pos ≤ E.seen.length) : s.pos ≤ (mAsk E s q).2.pos ∧ (mAsk E s q).2.pos ≤ E.seen.length := by
  unfold mAsk; split
  · exact ⟨Nat.le_refl _, h⟩
  · split
    · exact ⟨Nat.le_refl _, h⟩
    · exact ⟨Nat.le_succ _, by show s.pos + 1 ≤ _; omega⟩
theorem mAsk_val (E : Env) (hE : EnvOk E) (s : LS) (q : AskD) : -1 ≤ (mAsk E s q).1 ∧ (mAsk E s q).1 ≤ 1125899906842624 := by
  unfold mAsk; split
  · exact ⟨by show (-1 : Int) ≤ 0; omega, by show (0 : Int) ≤ _; omega⟩
  · split
    · exact ⟨by show (-1 : Int) ≤ 0; omega, by show (0 : Int) ≤ _; omega⟩
    · rename_i h1 h2
      refine hE.vals _ ?_
      have hlt : s.pos < E.seen.length := by omega
      show E.seen.getD s.pos 0 ∈ E.seen
      rw [show E.seen.getD s.pos 0 = E.seen[s.pos] from by simp [List.getD, List.getElem?_eq_getElem hlt]]
      exact List.getElem_mem hlt

theorem askL (E : Env) (hE : EnvOk E) (H : Hd) (B p eb : Nat) (s : LS) (k c f t : Int) (w : World) (hL : LifeR E H B p eb w s) (hpos : s.pos ≤ E.seen.length) :
    Calls Tryz.prog 78 #[.pointer (some ⟨p, 0, none⟩), .int .i64 k, .int .i64 c, .int .i64 f, .int .i64 t] w fun e w' =>
      e = .returned (.int .i64 (mAsk E s ⟨k, c, f, t⟩).1) ∧ LifeR E H B p eb w' (mAsk E s ⟨k, c, f, t⟩).2 ∧ Kp [88] B p eb w w' := by
  obtain ⟨la, lc, hb, hl⟩ := hL.life
  refine (ask_any E H la lc s p k c f t w hb (hL.stat.seen.mono hL.stat.size) hpos hE.len).mono ?_
  rintro e w' ⟨he, hb', ho⟩
  have hk : Kp [88] B p eb w w' := Kp.only ho hL.stat.size hb (by simp) (Or.inl rfl)
  refine ⟨he, ⟨hL.stat.keep hk, ⟨la, lc, hb', ?_⟩, ?_, hL.pB, hL.eB, hL.pe⟩, hk⟩
  · rw [mAsk_list]; exact hl.keep hk (by simp) (by simp)
  · rw [mAsk_ends]; exact hL.ends.imp id (fun ⟨a, b⟩ => ⟨a, b.keep hk (by simp)⟩)

set_option maxHeartbeats 400000 in
theorem loadL (E : Env) (hE : EnvOk E) (H : Hd) (B p eb : Nat) (s : LS) (c : Int) (w : World) (hL : LifeR E H B p eb w s) (hpos : s.pos ≤ E.seen.length) :
    Calls Tryz.prog 82 #[.pointer (some ⟨p, 0, none⟩), .int .i64 c] w fun e w' =>
      e = .returned (.int .i64 (mLoad E s c).1) ∧ LifeR E H B p eb w' (mLoad E s c).2 ∧ Kp [88] B p eb w w' := by
  go_enter Tryz.func82, Tryz.ntmps82
  go_wp2_with fail
  refine (askL E hE H B p eb s _ _ _ _ _ hL hpos).mono ?_
  rintro e w1 ⟨rfl, h1, h2⟩
  go_wp2_with fail
  go_ret
  exact ⟨rfl, h1, h2⟩

set_option maxHeartbeats 400000 in
theorem storeL (E : Env) (hE : EnvOk E) (H : Hd) (B p eb : Nat) (s : LS) (c t : Int) (w : World) (hL : LifeR E H B p eb w s) (hpos : s.pos ≤ E.seen.length) :
    Calls Tryz.prog 87 #[.pointer (some ⟨p, 0, none⟩), .int .i64 c, .int .i64 t] w fun e w' =>
      e = .returned (.int .i64 (mStore E s c t).1) ∧ LifeR E H B p eb w' (mStore E s c t).2 ∧ Kp [88] B p eb w w' := by
  go_enter Tryz.func87, Tryz.ntmps87
  go_wp2_with fail
  refine (askL E hE H B p eb s _ _ _ _ _ hL hpos).mono ?_
  rintro e w1 ⟨rfl, h1, h2⟩
  go_wp2_with fail
  go_ret
  exact ⟨rfl, h1, h2⟩

set_option maxHeartbeats 400000 in
theorem statusV (t wd s g r cp f n : Int) (a b : Option Addr) (l c m d : Nat) (w : World) (h1 : 1 ≤ s) (h2 : s ≤ 8) (h3 : -10 ≤ n) (h4 : n ≤ 1125899906842634) :
    Calls Tryz.prog 88 #[.agg #[.int .i64 t, .int .i64 wd, .int .i64 s, .int .i64 g, .int .i64 r, .int .i64 cp, .int .i64 f, .slice a l c, .slice b m d], .int .i64 n] w fun e w' =>
      e = .returned (.int .i64 (3 + 2 * s + n)) ∧ Below w.heap.size w w' := by
  go_enter Tryz.func88, Tryz.ntmps88
  go_wp2
  go_ret
  exact ⟨by simp, (Below.refl _ _).alloc (Nat.le_refl _) _⟩

set_option maxHeartbeats 400000 in
theorem versionV (t wd s g r cp f n : Int) (a b : Option Addr) (l c m d : Nat) (w : World) (h3 : -10 ≤ n) (h4 : n ≤ 1125899906842634) :
    Calls Tryz.prog 99 #[.agg #[.int .i64 t, .int .i64 wd, .int .i64 s, .int .i64 g, .int .i64 r, .int .i64 cp, .int .i64 f, .slice a l c, .slice b m d], .int .i64 n] w fun e w' =>
      e = .returned (.int .i64 (3 + n)) ∧ Below w.heap.size w w' := by
  go_enter Tryz.func99, Tryz.ntmps99
  go_wp2
  go_ret
  first
  | exact ⟨by simp, (Below.refl _ _).alloc (Nat.le_refl _) _⟩
  | exact ⟨by simp, Below.refl _ _⟩

set_option maxHeartbeats 400000 in
theorem ownerV (t wd s g r cp f n : Int) (a b : Option Addr) (l c m d : Nat) (w : World) (h1 : 1 ≤ s) (h2 : s ≤ 8) (h3 : -10 ≤ n) (h4 : n ≤ 1125899906842634) :
    Calls Tryz.prog 100 #[.agg #[.int .i64 t, .int .i64 wd, .int .i64 s, .int .i64 g, .int .i64 r, .int .i64 cp, .int .i64 f, .slice a l c, .slice b m d], .int .i64 n] w fun e w' =>
      e = .returned (.int .i64 (3 + s + n)) ∧ Below w.heap.size w w' := by
  go_enter Tryz.func100, Tryz.ntmps100
  go_wp2
  go_ret
  exact ⟨by simp, (Below.refl _ _).alloc (Nat.le_refl _) _⟩

set_option maxHeartbeats 400000 in
theorem wordV (t wd s g r cp f n : Int) (a b : Option Addr) (l c m d : Nat) (w : World) (h1 : 1 ≤ s) (h2 : s ≤ 8) (h5 : 1 ≤ t) (h6 : t ≤ 4) (h3 : -70000 ≤ n) (h4 : n ≤ 1125899906842634) :
    Calls Tryz.prog 72 #[.agg #[.int .i64 t, .int .i64 wd, .int .i64 s, .int .i64 g, .int .i64 r, .int .i64 cp, .int .i64 f, .slice a l c, .slice b m d], .int .i64 n] w fun e w' =>
      e = .returned (.int .i64 (3 + 2 * s + t + n)) ∧ Below w.heap.size w w' := by
  go_enter Tryz.func72, Tryz.ntmps72
  go_wp2
  go_ret
  exact ⟨by simp, (Below.refl _ _).alloc (Nat.le_refl _) _⟩

end Go.Proofs.YtejadojilncbjaaGreat
