import Derived.Test.YtejadojilncbjabJ01
namespace Go.Proofs.Ytejadojilncbjab
open Go.RowKit
set_option linter.unusedVariables false

/-- What a call leaves as it was: every block below B but two; every block of another type than those listed. -/
structure Kp (chg : List TypeId) (B p eb : Nat) (w w' : World) : Prop where
  os : w'.os = w.os
  tape : w'.tape = w.tape
  output : w'.output = w.output
  size : w.heap.size ≤ w'.heap.size
  low : ∀ k, k < B → k ≠ p → k ≠ eb → w'.heap[k]? = w.heap[k]?
  tag : ∀ (k : Nat) (t : TypeId) (cs : Array Value) (fr : Nat × Nat), w.heap[k]? = some (.cells cs t fr) → t ∉ chg → w'.heap[k]? = some (.cells cs t fr)

theorem Kp.refl (chg : List TypeId) (B p eb : Nat) (w : World) : Kp chg B p eb w w := ⟨rfl, rfl, rfl, Nat.le_refl _, fun _ _ _ _ => rfl, fun _ _ _ _ h _ => h⟩
theorem Kp.trans {chg : List TypeId} {B p eb : Nat} {a b c : World} (h : Kp chg B p eb a b) (k : Kp chg B p eb b c) : Kp chg B p eb a c :=
  ⟨k.os.trans h.os, k.tape.trans h.tape, k.output.trans h.output, Nat.le_trans h.size k.size, fun i hi h1 h2 => (k.low i hi h1 h2).trans (h.low i hi h1 h2), fun i t cs fr hi ht => k.tag i t cs fr (h.tag i t cs fr hi ht) ht⟩
theorem Kp.wide {chg chg' : List TypeId} {B p eb : Nat} {w w' : World} (h : Kp chg B p eb w w') (hs : ∀ t ∈ chg, t ∈ chg') : Kp chg' B p eb w w' :=
  ⟨h.os, h.tape, h.output, h.size, h.low, fun i t cs fr hi ht => h.tag i t cs fr hi (fun hm => ht (hs t hm))⟩
theorem lt_of_heap {w : World} {k : Nat} {o : Obj} (h : w.heap[k]? = some o) : k < w.heap.size := by
  rcases Nat.lt_or_ge k w.heap.size with h' | h'
  · exact h'
  · rw [Array.getElem?_eq_none h'] at h; cases h
theorem Kp.below {chg : List TypeId} {B p eb : Nat} {w w' : World} (h : Below w.heap.size w w') (hB : B ≤ w.heap.size) : Kp chg B p eb w w' :=
  ⟨h.os, h.tape, h.output, h.size, fun k hk _ _ => h.block k (by omega), fun k t cs fr hk _ => (h.block k (lt_of_heap hk)).trans hk⟩
theorem Kp.only {chg : List TypeId} {B p eb q : Nat} {w w' : World} {t : TypeId} {cs : Array Value} (h : Only q w w') (hB : B ≤ w.heap.size) (hq : Blk w q t cs) (hc : t ∈ chg) (hl : q = p ∨ q = eb ∨ B ≤ q) : Kp chg B p eb w w' :=
  ⟨h.os, h.tape, h.output, h.size, fun k hk h1 h2 => h.block k (by omega) (by omega), fun k u ds fr hk hu => (h.block k (lt_of_heap hk) (fun e => by
    subst e
    have : w.heap[k]? = some (.cells cs t (0, 0)) := hq
    rw [this] at hk
    simp at hk
    exact hu (hk.2.1 ▸ hc))).trans hk⟩
/-- Behind a store into, or an append onto, a row of the call's own. -/
theorem Kp.grown {chg : List TypeId} {B p eb : Nat} {w w' : World} {e : TypeId} {size n : Nat} {v : Value} {xs : List Value} (h : w.grownBy w' v.ownBlock) (hB : B ≤ w.heap.size) (hv : w.ownsRow B e size v n xs) (hc : e ∈ chg) : Kp chg B p eb w w' := by
  have hlt := hv.lt
  refine ⟨h.os, h.tape, h.output, h.size, fun k hk h1 h2 => h.block k (by omega) (fun e' => by have := (hlt k e'.symm).1; omega), fun k u ds fr hk hu => ?_⟩
  refine (h.block k (lt_of_heap hk) (fun e' => ?_)).trans hk
  rcases hv.2 with ⟨rfl, _⟩ | ⟨g, cap, cur, rfl, _, hg, _⟩
  · simp [Value.ownBlock] at e'
  · simp [Value.ownBlock] at e'
    subst e'
    rw [hg] at hk
    simp at hk
    exact hu (hk.2.1 ▸ hc)
theorem Kp.drewN {chg : List TypeId} {B p eb : Nat} {w w' : World} (h : Kp chg B p eb w w') (n : Nat) : Kp chg B p eb w (w'.drewN n) := ⟨h.os, h.tape, h.output, h.size, h.low, h.tag⟩
theorem Kp.drew {chg : List TypeId} {B p eb : Nat} {w w' : World} (h : Kp chg B p eb w w') : Kp chg B p eb w w'.drew := ⟨h.os, h.tape, h.output, h.size, h.low, h.tag⟩

theorem Blk.keep {chg : List TypeId} {B p eb k : Nat} {w w' : World} {t : TypeId} {cs : Array Value} (h : Blk w k t cs) (hk : Kp chg B p eb w w') (ht : t ∉ chg) : Blk w' k t cs := hk.tag k t cs (0, 0) h ht
theorem ownsRow_keep {chg : List TypeId} {B p eb base : Nat} {w w' : World} {e : TypeId} {size n : Nat} {v : Value} {xs : List Value} (h : w.ownsRow base e size v n xs) (hk : Kp chg B p eb w w') (ht : e ∉ chg) : w'.ownsRow base e size v n xs := by
  refine ⟨h.1, ?_⟩
  rcases h.2 with hn | ⟨g, cap, cur, rfl, hb, hg, rest⟩
  · exact .inl hn
  · exact .inr ⟨g, cap, cur, rfl, hb, hk.tag _ _ _ _ hg ht, rest⟩

/-- A slice that leads below B, and neither to p nor to eb. -/
def Far (B p eb : Nat) (a : Option Addr) : Prop := ∀ b off, a = some ⟨b, off, none⟩ → b < B ∧ b ≠ p ∧ b ≠ eb
/-- .. where the code has an instruction. -/
def FarC (B p eb : Nat) (a : Option Addr) (is : List InsD) : Prop := is ≠ [] → Far B p eb a

theorem cell_low {chg : List TypeId} {B p eb b o : Nat} {w w' : World} (hk : Kp chg B p eb w w') (h : b < B ∧ b ≠ p ∧ b ≠ eb) : w'.cell? ⟨b, o, none⟩ = w.cell? ⟨b, o, none⟩ :=
  World.cell?_of_block (w := w) (hk.low b h.1 h.2.1 h.2.2)

theorem Ints.keep {chg : List TypeId} {B p eb B' : Nat} {w w' : World} {a : Option Addr} {zs : List Int} (h : Ints w B' a zs) (hf : Far B p eb a) (hk : Kp chg B p eb w w') : Ints w' B' a zs := by
  intro i hi
  obtain ⟨b, off, ha, hlt, hc⟩ := h i hi
  exact ⟨b, off, ha, hlt, (cell_low hk (hf b off ha)).trans hc⟩
theorem CodeIn.keep {chg : List TypeId} {B p eb B' : Nat} {w w' : World} {a : Option Addr} {is : List InsD} (h : CodeIn w B' a is) (hf : FarC B p eb a is) (hk : Kp chg B p eb w w') : CodeIn w' B' a is := by
  intro i hi
  obtain ⟨b, off, ha, hlt, h0, h1, h2, h3⟩ := h i hi
  have hl := hf (fun e => by simp [e] at hi) b off ha
  exact ⟨b, off, ha, hlt, (cell_low hk hl).trans h0, (cell_low hk hl).trans h1, (cell_low hk hl).trans h2, (cell_low hk hl).trans h3⟩
theorem JobsIn.keep {chg : List TypeId} {B p eb B' : Nat} {w w' : World} {a : Option Addr} {js : List JobD} (h : JobsIn w B' a js) (hf : js ≠ [] → Far B p eb a) (hk : Kp chg B p eb w w') : JobsIn w' B' a js := by
  intro i hi
  obtain ⟨b, off, ha, hlt, h0, h1⟩ := h i hi
  have hl := hf (fun e => by simp [e] at hi) b off ha
  exact ⟨b, off, ha, hlt, (cell_low hk hl).trans h0, (cell_low hk hl).trans h1⟩

/-- What of a life lies still. -/
structure Stat (E : Env) (H : Hd) (B p eb : Nat) (w : World) : Prop where
  size : B ≤ w.heap.size
  seen : Ints w B H.sa E.seen
  seenF : Far B p eb H.sa
  draws : Ints w B H.da E.draws
  drawsF : Far B p eb H.da
  whens : Ints w B H.wa E.whens
  whensF : Far B p eb H.wa
  jobs : ∃ js : List JobD, js.length = E.jobs.length ∧ JobsIn w B H.ja js ∧ (∀ i, i < js.length → (jobAt js i).t = (E.jobs.getD i (0, [])).1 ∧ (jobAt js i).len = (E.jobs.getD i (0, [])).2.length ∧
    CodeIn w B (jobAt js i).a (E.jobs.getD i (0, [])).2 ∧ FarC B p eb (jobAt js i).a (E.jobs.getD i (0, [])).2)
  jobsF : E.jobs ≠ [] → Far B p eb H.ja

theorem Stat.keep {chg : List TypeId} {E : Env} {H : Hd} {B p eb : Nat} {w w' : World} (h : Stat E H B p eb w) (hk : Kp chg B p eb w w') : Stat E H B p eb w' := by
  obtain ⟨js, h1, h2, h3⟩ := h.jobs
  exact ⟨Nat.le_trans h.size hk.size, h.seen.keep h.seenF hk, h.seenF, h.draws.keep h.drawsF hk, h.drawsF, h.whens.keep h.whensF hk, h.whensF,
    ⟨js, h1, h2.keep (fun e => h.jobsF (fun e2 => e (List.eq_nil_of_length_eq_zero (by rw [h1, e2]; rfl)))) hk, fun i hi => ⟨(h3 i hi).1, (h3 i hi).2.1, (h3 i hi).2.2.1.keep (h3 i hi).2.2.2 hk, (h3 i hi).2.2.2⟩⟩, h.jobsF⟩

def noteCells (n : NoteD) : List Value := [.int .i64 n.op, .int .i64 n.addr, .int .i64 n.val]
def attCells (a : AttD) (nv : Value) : List Value := [.int .i64 a.thread, .int .i64 a.job, .int .i64 a.start, .int .i64 a.fin, .int .i64 a.valid, .int .i64 a.stamp, .int .i64 a.fate, nv]
def rowCells (L : List AttD) (nvs : List Value) : List Value := (L.zip nvs).flatMap fun q => attCells q.1 q.2

/-- The attempts in memory: a row of eight cells each, the notes of each in a row of their own. -/
def ListRep (w : World) (B : Nat) (la : Option Addr) (lc : Nat) (L : List AttD) : Prop :=
  ∃ nvs : List Value, nvs.length = L.length ∧ w.ownsRow B 66 8 (.slice la L.length lc) L.length (rowCells L nvs) ∧
    (∀ (i : Nat) (a : AttD) (nv : Value), L[i]? = some a → nvs[i]? = some nv → w.ownsRow B 99 3 nv a.notes.length (a.notes.flatMap noteCells)) ∧
    (∀ (i j : Nat) (u v : Value) (k : Nat), nvs[i]? = some u → nvs[j]? = some v → u.ownBlock = some k → v.ownBlock = some k → i = j)

theorem ListRep.keep {chg : List TypeId} {B p eb : Nat} {w w' : World} {la : Option Addr} {lc : Nat} {L : List AttD} (h : ListRep w B la lc L) (hk : Kp chg B p eb w w') (h1 : 66 ∉ chg) (h2 : 99 ∉ chg) : ListRep w' B la lc L := by
  obtain ⟨nvs, hl, ho, hn, hd⟩ := h
  exact ⟨nvs, hl, ownsRow_keep ho hk h1, fun i a nv hi hj => ownsRow_keep (hn i a nv hi hj) hk h2, hd⟩

def resCells (r : ResD) : List Value := [.int .i64 r.fate, .int .i64 r.r0, .int .i64 r.r1, .int .i64 r.r2, .int .i64 r.r3]

/-- A life in memory. -/
structure LifeR (E : Env) (H : Hd) (B p eb : Nat) (w : World) (s : LS) : Prop where
  stat : Stat E H B p eb w
  life : ∃ la lc, Blk w p 75 (lifeArr E H la lc s) ∧ ListRep w B la lc s.list
  ends : s.ends = [] ∨ (H.ea = some ⟨eb, 0, none⟩ ∧ Blk w eb 51 (s.ends.flatMap resCells).toArray)
  pB : p < B
  eB : eb < B
  pe : p ≠ eb

theorem LifeR.keep {chg : List TypeId} {E : Env} {H : Hd} {B p eb : Nat} {w w' : World} {s : LS} (h : LifeR E H B p eb w s) (hk : Kp chg B p eb w w') (h0 : 75 ∉ chg) (h1 : 66 ∉ chg) (h2 : 99 ∉ chg) (h3 : 51 ∉ chg) : LifeR E H B p eb w' s := by
  obtain ⟨la, lc, hb, hl⟩ := h.life
  exact ⟨h.stat.keep hk, ⟨la, lc, hb.keep hk h0, hl.keep hk h1 h2⟩, h.ends.imp id (fun ⟨a, b⟩ => ⟨a, b.keep hk h3⟩), h.pB, h.eB, h.pe⟩

def entCells (e : EntD) : List Value := [.int .i64 e.what, .int .i64 e.val]

def tryArr (ca : Option Addr) (cc : Nat) (ra : Option Addr) (rc : Nat) (wa : Option Addr) (wc : Nat) (ha : Option Addr) (hc : Nat) (x : TS) : Array Value :=
  #[.slice ca x.code.length cc, .int .i64 (x.regs.getD 0 0), .int .i64 (x.regs.getD 1 0), .int .i64 (x.regs.getD 2 0), .int .i64 (x.regs.getD 3 0), .int .i64 x.place, .int .i64 x.begun, .int .i64 x.valid,
    .slice ra x.reads.length rc, .slice wa x.writes.length wc, .slice ha x.held.length hc, .bool x.inGate, .int .i64 x.way]

/-- An attempt in memory. -/
structure TryR (B p eb xb : Nat) (w : World) (x : TS) : Prop where
  blk : ∃ ca cc ra rc wa wc ha hc, Blk w xb 130 (tryArr ca cc ra rc wa wc ha hc x) ∧ CodeIn w B ca x.code ∧ FarC B p eb ca x.code ∧
    w.ownsRow B 144 2 (.slice ra x.reads.length rc) x.reads.length (x.reads.flatMap entCells) ∧ w.ownsRow B 144 2 (.slice wa x.writes.length wc) x.writes.length (x.writes.flatMap entCells) ∧
    w.ownsRow B 3 1 (.slice ha x.held.length hc) x.held.length (x.held.map (.int .i64 ·)) ∧ (∀ k, (Value.slice ra x.reads.length rc).ownBlock = some k → (Value.slice wa x.writes.length wc).ownBlock ≠ some k)
  xB : B ≤ xb
  regs : x.regs.length = 4

theorem TryR.keep {chg : List TypeId} {B p eb xb : Nat} {w w' : World} {x : TS} (h : TryR B p eb xb w x) (hk : Kp chg B p eb w w') (h0 : 130 ∉ chg) (h1 : 144 ∉ chg) (h2 : 3 ∉ chg) : TryR B p eb xb w' x := by
  obtain ⟨ca, cc, ra, rc, wa, wc, ha, hc, hb, hcd, hcf, h3, h4, h5, h6⟩ := h.blk
  exact ⟨⟨ca, cc, ra, rc, wa, wc, ha, hc, hb.keep hk h0, hcd.keep hcf hk, hcf, ownsRow_keep h3 hk h1, ownsRow_keep h4 hk h1, ownsRow_keep h5 hk h2, h6⟩, h.xB, h.regs⟩

end Go.Proofs.Ytejadojilncbjab

namespace Go.Proofs.Ytejadojilncbjab
open Go.RowKit
set_option linter.unusedVariables false

theorem flat_at {α : Type} {f : α → List Value} {n : Nat} (hf : ∀ a, (f a).length = n) : ∀ (l : List α) (i j : Nat), j < n → (l.flatMap f)[i * n + j]? = (l[i]?).bind fun a => (f a)[j]?
  | [], i, j, hj => by simp
  | a :: l, 0, j, hj => by
    rw [List.flatMap_cons, Nat.zero_mul, Nat.zero_add, List.getElem?_append_left (by rw [hf]; exact hj)]
    simp
  | a :: l, i + 1, j, hj => by
    rw [List.flatMap_cons, List.getElem?_append_right (by rw [hf, Nat.add_mul]; omega), hf, show (i + 1) * n + j - n = i * n + j from by rw [Nat.add_mul]; omega, flat_at hf l i j hj]
    simp
/-- Entries that lie behind a slice's address. -/
def EntsIn (w : World) (a : Option Addr) (es : List EntD) : Prop :=
  ∀ i, i < es.length → ∃ b, a = some ⟨b, 0, none⟩ ∧ w.cell? ⟨b, i * 2, none⟩ = some (.int .i64 (es.getD i ⟨0, 0⟩).what) ∧ w.cell? ⟨b, i * 2 + 1, none⟩ = some (.int .i64 (es.getD i ⟨0, 0⟩).val) ∧
    w.frozen? ⟨b, i * 2 + 1, none⟩ = false

theorem own_block {w : World} {base : Nat} {e : TypeId} {size n : Nat} {v : Value} {xs : List Value} (h : w.ownsRow base e size v n xs) (hn : 0 < n) :
    ∃ g cap cur, v = .slice (some ⟨g, 0, none⟩) n cap ∧ base ≤ g ∧ Blk w g e cur ∧ n ≤ cap ∧ cap ≤ maxLen ∧ cur.size = cap * size ∧ cur.toList.take (n * size) = xs := by
  rcases h.2 with ⟨_, h0⟩ | ⟨g, cap, cur, hv, hb, hg, r⟩
  · omega
  · exact ⟨g, cap, cur, hv, hb, hg, r⟩

theorem ents_of {w : World} {base : Nat} {a : Option Addr} {c : Nat} {es : List EntD} (h : w.ownsRow base 144 2 (.slice a es.length c) es.length (es.flatMap entCells)) : EntsIn w a es := by
  intro i hi
  obtain ⟨g, cap, cur, hv, hb, hg, h1, h2, h3, h4⟩ := own_block h (by omega)
  simp at hv
  obtain ⟨rfl, rfl⟩ := hv
  have hat : ∀ j, j < 2 → w.cell? ⟨g, i * 2 + j, none⟩ = (entCells (es.getD i ⟨0, 0⟩))[j]? := by
    intro j hj
    rw [hg.cell]
    have e1 : (es.flatMap entCells)[i * 2 + j]? = (entCells (es.getD i ⟨0, 0⟩))[j]? := by
      rw [flat_at (n := 2) (fun _ => rfl) es i j hj]
      simp [List.getElem?_eq_getElem hi]
    rw [← e1, ← h4, List.getElem?_take, if_pos (by omega), Array.getElem?_toList]
  refine ⟨g, rfl, ?_, ?_, hg.frozen _⟩
  · have := hat 0 (by omega); simpa [entCells] using this
  · have := hat 1 (by omega); simpa [entCells] using this

/-- A try's held stripes. -/
def NumsIn (w : World) (a : Option Addr) (zs : List Int) : Prop := ∀ i, i < zs.length → ∃ b, a = some ⟨b, 0, none⟩ ∧ w.cell? ⟨b, i, none⟩ = some (.int .i64 (zs.getD i 0))

theorem nums_of {w : World} {base : Nat} {a : Option Addr} {c : Nat} {zs : List Int} (h : w.ownsRow base 3 1 (.slice a zs.length c) zs.length (zs.map (.int .i64 ·))) : NumsIn w a zs := by
  intro i hi
  obtain ⟨g, cap, cur, hv, hb, hg, h1, h2, h3, h4⟩ := own_block h (by omega)
  simp at hv
  obtain ⟨rfl, rfl⟩ := hv
  refine ⟨g, rfl, ?_⟩
  rw [hg.cell]
  have e1 : (zs.map (Value.int .i64 ·))[i]? = some (.int .i64 (zs.getD i 0)) := by simp [List.getElem?_eq_getElem hi]
  rw [← e1, ← h4, List.getElem?_take, if_pos (by omega), Array.getElem?_toList]

end Go.Proofs.Ytejadojilncbjab

namespace Go.Proofs.Ytejadojilncbjab
open Go.RowKit
set_option linter.unusedVariables false
attribute [local go_sem ↓] Go.wp_at_zero Go.wp_at_succ

theorem LifeR.below {E : Env} {H : Hd} {B p eb : Nat} {w w' : World} {s : LS} (h : LifeR E H B p eb w s) (hb : Below w.heap.size w w') : LifeR E H B p eb w' s :=
  h.keep (chg := []) (Kp.below hb h.stat.size) (by simp) (by simp) (by simp) (by simp)
theorem TryR.below {B p eb xb : Nat} {w w' : World} {x : TS} (h : TryR B p eb xb w x) (hb : Below w.heap.size w w') (hB : B ≤ w.heap.size) : TryR B p eb xb w' x :=
  h.keep (chg := []) (p := p) (eb := eb) (Kp.below hb hB) (by simp) (by simp) (by simp)
theorem LifeR.drewN {E : Env} {H : Hd} {B p eb : Nat} {w : World} {s : LS} (h : LifeR E H B p eb w s) (n : Nat) : LifeR E H B p eb (w.drewN n) s := h.below (below_drewN (Below.refl _ _) n)
theorem LifeR.drew {E : Env} {H : Hd} {B p eb : Nat} {w : World} {s : LS} (h : LifeR E H B p eb w s) : LifeR E H B p eb w.drew s := h.below (Below.refl _ _).drew
theorem TryR.drewN {B p eb xb : Nat} {w : World} {x : TS} (h : TryR B p eb xb w x) (n : Nat) : TryR B p eb xb (w.drewN n) x := by
  obtain ⟨ca, cc, ra, rc, wa, wc, ha, hc, h1⟩ := h.blk
  exact ⟨⟨ca, cc, ra, rc, wa, wc, ha, hc, h1⟩, h.xB, h.regs⟩
theorem TryR.drew {B p eb xb : Nat} {w : World} {x : TS} (h : TryR B p eb xb w x) : TryR B p eb xb w.drew x := by
  obtain ⟨ca, cc, ra, rc, wa, wc, ha, hc, h1⟩ := h.blk
  exact ⟨⟨ca, cc, ra, rc, wa, wc, ha, hc, h1⟩, h.xB, h.regs⟩

/-- A try's held stripes, read where they lie. -/
theorem TryR.held {B p eb xb : Nat} {w : World} {x : TS} (h : TryR B p eb xb w x) : ∃ ha hc, w.cell? ⟨xb, 10, none⟩ = some (.slice ha x.held.length hc) ∧ NumsIn w ha x.held := by
  obtain ⟨ca, cc, ra, rc, wa, wc, ha, hc, hb, hcd, hcf, h3, h4, h5, h6⟩ := h.blk
  exact ⟨ha, hc, by rw [hb.cell]; rfl, nums_of h5⟩

end Go.Proofs.Ytejadojilncbjab
