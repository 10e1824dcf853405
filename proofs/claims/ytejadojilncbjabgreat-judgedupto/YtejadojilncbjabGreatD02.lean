import Derived.Test.YtejadojilncbjabGreatD01
import Derived.OneCell
import Derived.BigRegion
import Derived.Deep.RegionLaw
import Derived.Deep.LoopGhost
namespace Go.Proofs.YtejadojilncbjabGreat
open Go.RowKit
set_option linter.unusedVariables false
structure Kp (chg : List TypeId) (B p eb : Nat) (w w' : World) : Prop where
 os : w'.os = w.os
 tape : w'.tape = w.tape
 output : w'.output = w.output
 size : w.heap.size ≤ w'.heap.size
 low : ∀ k, k < B → k ≠ p → k ≠ eb → w'.heap[k]? = w.heap[k]?
 tag : ∀ (k : Nat) (t : TypeId) (cs : Array Value) (fr : Nat × Nat), w.heap[k]? = some (.cells cs t fr) → t ∉ chg → w'.heap[k]? = some (.cells cs t fr)
theorem Kp.refl (chg : List TypeId) (B p eb : Nat) (w : World) : Kp chg B p eb w w := ⟨rfl, rfl, rfl, Nat.le_refl _, fun _ _ _ _ => rfl, fun _ _ _ _ h _ => h⟩
theorem Kp.trans {chg : List TypeId} {B p eb : Nat} {a b c : World} (h : Kp chg B p eb a b) (k : Kp chg B p eb b c) : Kp chg B p eb a c :=
 ⟨k.os.trans h.os, k.tape.trans h.tape, k.output.trans h.output, Nat.le_trans h.size k.size, fun i hi h1 h2 => (k.low i hi h1 h2).trans (h.low i hi h1 h2), fun i t cs fr hi ht => k.tag i t cs fr (h.tag i t cs fr hi ht) ht⟩
theorem Kp.wide {chg chg' : List TypeId} {B p eb : Nat} {w w' : World} (h : Kp chg B p eb w w') (hs : ∀ t ∈ chg, t ∈ chg') : Kp chg' B p eb w w' :=
 ⟨h.os, h.tape, h.output, h.size, h.low, fun i t cs fr hi ht => h.tag i t cs fr hi (fun hm => ht (hs t hm))⟩
theorem lt_of_heap {w : World} {k : Nat} {o : Obj} (h : w.heap[k]? = some o) : k < w.heap.size := by
 rcases Nat.lt_or_ge k w.heap.size with h' | h'
 ·exact h'
 ·rw [Array.getElem?_eq_none h'] at h; cases h
theorem Kp.below {chg : List TypeId} {B p eb : Nat} {w w' : World} (h : Below w.heap.size w w') (hB : B ≤ w.heap.size) : Kp chg B p eb w w' :=
 ⟨h.os, h.tape, h.output, h.size, fun k hk _ _ => h.block k (by omega), fun k t cs fr hk _ => (h.block k (lt_of_heap hk)).trans hk⟩
theorem Kp.only {chg : List TypeId} {B p eb q : Nat} {w w' : World} {t : TypeId} {cs : Array Value} (h : Only q w w') (hB : B ≤ w.heap.size) (hq : Blk w q t cs) (hc : t ∈ chg) (hl : q = p ∨ q = eb ∨ B ≤ q) : Kp chg B p eb w w' :=
 ⟨h.os, h.tape, h.output, h.size, fun k hk h1 h2 => h.block k (by omega) (by omega), fun k u ds fr hk hu => (h.block k (lt_of_heap hk) (fun e => by
           subst e
           have : w.heap[k]? = some (.cells cs t (0, 0)) := hq
           rw [this] at hk
           simp at hk
           exact hu (hk.2.1 ▸ hc))).trans hk⟩
theorem Kp.grown {chg : List TypeId} {B p eb : Nat} {w w' : World} {e : TypeId} {size n : Nat} {v : Value} {xs : List Value} (h : w.grownBy w' v.ownBlock) (hB : B ≤ w.heap.size) (hv : w.ownsRow B e size v n xs) (hc : e ∈ chg) : Kp chg B p eb w w' := by
 have hlt := hv.lt
 refine ⟨h.os, h.tape, h.output, h.size, fun k hk h1 h2 => h.block k (by omega) (fun e' => by have := (hlt k e'.symm).1; omega), fun k u ds fr hk hu => ?_⟩
 refine (h.block k (lt_of_heap hk) (fun e' => ?_)).trans hk
 rcases hv.2 with ⟨rfl, _⟩ | ⟨g, cap, cur, rfl, _, hg, _⟩
 ·simp [Value.ownBlock] at e'
 ·simp [Value.ownBlock] at e'
  subst e'
  rw [hg] at hk
  simp at hk
  exact hu (hk.2.1 ▸ hc)
theorem Kp.drewN {chg : List TypeId} {B p eb : Nat} {w w' : World} (h : Kp chg B p eb w w') (n : Nat) : Kp chg B p eb w (w'.drewN n) := ⟨h.os, h.tape, h.output, h.size, h.low, h.tag⟩
theorem Kp.drew {chg : List TypeId} {B p eb : Nat} {w w' : World} (h : Kp chg B p eb w w') : Kp chg B p eb w w'.drew := ⟨h.os, h.tape, h.output, h.size, h.low, h.tag⟩
theorem Blk.keep {chg : List TypeId} {B p eb k : Nat} {w w' : World} {t : TypeId} {cs : Array Value} (h : Blk w k t cs) (hk : Kp chg B p eb w w') (ht : t ∉ chg) : Blk w' k t cs := hk.tag k t cs (0, 0) h ht
theorem ownsRow_keep {chg : List TypeId} {B p eb base : Nat} {w w' : World} {e : TypeId} {size n : Nat} {v : Value} {xs : List Value} (h : w.ownsRow base e size v n xs) (hk : Kp chg B p eb w w') (ht : e ∉ chg) : w'.ownsRow base e size v n xs := by
 refine ⟨h.1, ?_⟩
 rcases h.2 with hn | ⟨g, cap, cur, rfl, hb, hg, rest⟩
 ·exact .inl hn
 ·exact .inr ⟨g, cap, cur, rfl, hb, hk.tag _ _ _ _ hg ht, rest⟩
def Far (B p eb : Nat) (a : Option Addr) : Prop := ∀ b off, a = some ⟨b, off, none⟩ → b < B ∧ b ≠ p ∧ b ≠ eb
def FarC (B p eb : Nat) (a : Option Addr) (is : List InsD) : Prop := is ≠ [] → Far B p eb a
theorem cell_low {chg : List TypeId} {B p eb b o : Nat} {w w' : World} (hk : Kp chg B p eb w w') (h : b < B ∧ b ≠ p ∧ b ≠ eb) : w'.cell? ⟨b, o, none⟩ = w.cell? ⟨b, o, none⟩ :=
 World.cell?_of_block (w := w) (hk.low b h.1 h.2.1 h.2.2)
theorem Ints.keep {chg : List TypeId} {B p eb B' : Nat} {w w' : World} {a : Option Addr} {zs : List Int} (h : Ints w B' a zs) (hf : Far B p eb a) (hk : Kp chg B p eb w w') : Ints w' B' a zs := by
 intro i hi
 obtain ⟨b, off, ha, hlt, hc⟩ := h i hi
 exact ⟨b, off, ha, hlt, (cell_low hk (hf b off ha)).trans hc⟩
theorem CodeIn.keep {chg : List TypeId} {B p eb B' : Nat} {w w' : World} {a : Option Addr} {is : List InsD} (h : CodeIn w B' a is) (hf : FarC B p eb a is) (hk : Kp chg B p eb w w') : CodeIn w' B' a is := by
 intro i hi
 obtain ⟨b, off, ha, hlt, h0, h1, h2, h3⟩ := h i hi
 have hl := hf (fun e => by simp [e] at hi) b off ha
 exact ⟨b, off, ha, hlt, (cell_low hk hl).trans h0, (cell_low hk hl).trans h1, (cell_low hk hl).trans h2, (cell_low hk hl).trans h3⟩
theorem JobsIn.keep {chg : List TypeId} {B p eb B' : Nat} {w w' : World} {a : Option Addr} {js : List JobD} (h : JobsIn w B' a js) (hf : js ≠ [] → Far B p eb a) (hk : Kp chg B p eb w w') : JobsIn w' B' a js := by
 intro i hi
 obtain ⟨b, off, ha, hlt, h0, h1⟩ := h i hi
 have hl := hf (fun e => by simp [e] at hi) b off ha
 exact ⟨b, off, ha, hlt, (cell_low hk hl).trans h0, (cell_low hk hl).trans h1⟩
structure Stat (E : Env) (H : Hd) (B p eb : Nat) (w : World) : Prop where
 size : B ≤ w.heap.size
 seen : Ints w B H.sa E.seen
 seenF : Far B p eb H.sa
 draws : Ints w B H.da E.draws
 drawsF : Far B p eb H.da
 whens : Ints w B H.wa E.whens
 whensF : Far B p eb H.wa
 jobs : ∃ js : List JobD, js.length = E.jobs.length ∧ JobsIn w B H.ja js ∧ (∀ i, i < js.length → (jobAt js i).t = (E.jobs.getD i (0, [])).1 ∧ (jobAt js i).len = (E.jobs.getD i (0, [])).2.length ∧
     CodeIn w B (jobAt js i).a (E.jobs.getD i (0, [])).2 ∧ FarC B p eb (jobAt js i).a (E.jobs.getD i (0, [])).2)
 jobsF : E.jobs ≠ [] → Far B p eb H.ja
theorem Stat.keep {chg : List TypeId} {E : Env} {H : Hd} {B p eb : Nat} {w w' : World} (h : Stat E H B p eb w) (hk : Kp chg B p eb w w') : Stat E H B p eb w' := by
 obtain ⟨js, h1, h2, h3⟩ := h.jobs
 exact ⟨Nat.le_trans h.size hk.size, h.seen.keep h.seenF hk, h.seenF, h.draws.keep h.drawsF hk, h.drawsF, h.whens.keep h.whensF hk, h.whensF,
     ⟨js, h1, h2.keep (fun e => h.jobsF (fun e2 => e (List.eq_nil_of_length_eq_zero (by rw [h1, e2]; rfl)))) hk, fun i hi => ⟨(h3 i hi).1, (h3 i hi).2.1, (h3 i hi).2.2.1.keep (h3 i hi).2.2.2 hk, (h3 i hi).2.2.2⟩⟩, h.jobsF⟩
def noteCells (n : NoteD) : List Value := [.int .i64 n.op, .int .i64 n.addr, .int .i64 n.val]
def attCells (a : AttD) (nv : Value) : List Value := [.int .i64 a.thread, .int .i64 a.job, .int .i64 a.start, .int .i64 a.fin, .int .i64 a.valid, .int .i64 a.stamp, .int .i64 a.fate, nv]
def rowCells (L : List AttD) (nvs : List Value) : List Value := (L.zip nvs).flatMap fun q => attCells q.1 q.2
def ListRep (w : World) (B : Nat) (la : Option Addr) (lc : Nat) (L : List AttD) : Prop :=
 ∃ nvs : List Value, nvs.length = L.length ∧ w.ownsRow B 82 8 (.slice la L.length lc) L.length (rowCells L nvs) ∧
  (∀ (i : Nat) (a : AttD) (nv : Value), L[i]? = some a → nvs[i]? = some nv → w.ownsRow B 93 3 nv a.notes.length (a.notes.flatMap noteCells)) ∧
  (∀ (i j : Nat) (u v : Value) (k : Nat), nvs[i]? = some u → nvs[j]? = some v → u.ownBlock = some k → v.ownBlock = some k → i = j)
theorem ListRep.keep {chg : List TypeId} {B p eb : Nat} {w w' : World} {la : Option Addr} {lc : Nat} {L : List AttD} (h : ListRep w B la lc L) (hk : Kp chg B p eb w w') (h1 : 82 ∉ chg) (h2 : 93 ∉ chg) : ListRep w' B la lc L := by
 obtain ⟨nvs, hl, ho, hn, hd⟩ := h
 exact ⟨nvs, hl, ownsRow_keep ho hk h1, fun i a nv hi hj => ownsRow_keep (hn i a nv hi hj) hk h2, hd⟩
def resCells (r : ResD) : List Value := [.int .i64 r.fate, .int .i64 r.r0, .int .i64 r.r1, .int .i64 r.r2, .int .i64 r.r3]
structure LifeR (E : Env) (H : Hd) (B p eb : Nat) (w : World) (s : LS) : Prop where
 stat : Stat E H B p eb w
 life : ∃ la lc, Blk w p 154 (lifeArr E H la lc s) ∧ ListRep w B la lc s.list
 ends : s.ends = [] ∨ (H.ea = some ⟨eb, 0, none⟩ ∧ Blk w eb 47 (s.ends.flatMap resCells).toArray)
 pB : p < B
 eB : eb < B
 pe : p ≠ eb
theorem LifeR.keep {chg : List TypeId} {E : Env} {H : Hd} {B p eb : Nat} {w w' : World} {s : LS} (h : LifeR E H B p eb w s) (hk : Kp chg B p eb w w') (h0 : 154 ∉ chg) (h1 : 82 ∉ chg) (h2 : 93 ∉ chg) (h3 : 47 ∉ chg) : LifeR E H B p eb w' s := by
 obtain ⟨la, lc, hb, hl⟩ := h.life
 exact ⟨h.stat.keep hk, ⟨la, lc, hb.keep hk h0, hl.keep hk h1 h2⟩, h.ends.imp id (fun ⟨a, b⟩ => ⟨a, b.keep hk h3⟩), h.pB, h.eB, h.pe⟩
def entCells (e : EntD) : List Value := [.int .i64 e.what, .int .i64 e.val]
def tryArr (ca : Option Addr) (cc : Nat) (ra : Option Addr) (rc : Nat) (wa : Option Addr) (wc : Nat) (ha : Option Addr) (hc : Nat) (x : TS) : Array Value :=
 #[.slice ca x.code.length cc, .int .i64 (x.regs.getD 0 0), .int .i64 (x.regs.getD 1 0), .int .i64 (x.regs.getD 2 0), .int .i64 (x.regs.getD 3 0), .int .i64 x.place, .int .i64 x.begun, .int .i64 x.valid,
     .slice ra x.reads.length rc, .slice wa x.writes.length wc, .slice ha x.held.length hc, .bool x.inGate, .int .i64 x.way]
structure TryR (B p eb xb : Nat) (w : World) (x : TS) : Prop where
 blk : ∃ ca cc ra rc wa wc ha hc, Blk w xb 208 (tryArr ca cc ra rc wa wc ha hc x) ∧ CodeIn w B ca x.code ∧ FarC B p eb ca x.code ∧
  w.ownsRow B 217 2 (.slice ra x.reads.length rc) x.reads.length (x.reads.flatMap entCells) ∧ w.ownsRow B 217 2 (.slice wa x.writes.length wc) x.writes.length (x.writes.flatMap entCells) ∧
  w.ownsRow B 3 1 (.slice ha x.held.length hc) x.held.length (x.held.map (.int .i64 ·)) ∧ (∀ k, (Value.slice ra x.reads.length rc).ownBlock = some k → (Value.slice wa x.writes.length wc).ownBlock ≠ some k)
 xB : B ≤ xb
 regs : x.regs.length = 4
theorem TryR.keep {chg : List TypeId} {B p eb xb : Nat} {w w' : World} {x : TS} (h : TryR B p eb xb w x) (hk : Kp chg B p eb w w') (h0 : 208 ∉ chg) (h1 : 217 ∉ chg) (h2 : 3 ∉ chg) : TryR B p eb xb w' x := by
 obtain ⟨ca, cc, ra, rc, wa, wc, ha, hc, hb, hcd, hcf, h3, h4, h5, h6⟩ := h.blk
 exact ⟨⟨ca, cc, ra, rc, wa, wc, ha, hc, hb.keep hk h0, hcd.keep hcf hk, hcf, ownsRow_keep h3 hk h1, ownsRow_keep h4 hk h1, ownsRow_keep h5 hk h2, h6⟩, h.xB, h.regs⟩
theorem flat_at {α : Type} {f : α → List Value} {n : Nat} (hf : ∀ a, (f a).length = n) : ∀ (l : List α) (i j : Nat), j < n → (l.flatMap f)[i * n + j]? = (l[i]?).bind fun a => (f a)[j]?
 | [], i, j, hj => by simp
 | a :: l, 0, j, hj => by
  rw [List.flatMap_cons, Nat.zero_mul, Nat.zero_add, List.getElem?_append_left (by rw [hf]; exact hj)]
  simp
 | a :: l, i + 1, j, hj => by
  rw [List.flatMap_cons, List.getElem?_append_right (by rw [hf, Nat.add_mul]; omega), hf, show (i + 1) * n + j - n = i * n + j from by rw [Nat.add_mul]; omega, flat_at hf l i j hj]
  simp
theorem flat_len {α : Type} {f : α → List Value} {n : Nat} (hf : ∀ a, (f a).length = n) : ∀ (l : List α), (l.flatMap f).length = l.length * n
 | [] => by simp
 | a :: l => by rw [List.flatMap_cons, List.length_append, hf, flat_len hf l, List.length_cons, Nat.add_mul]; omega
def EntsIn (w : World) (a : Option Addr) (es : List EntD) : Prop :=
 ∀ i, i < es.length → ∃ b, a = some ⟨b, 0, none⟩ ∧ w.cell? ⟨b, i * 2, none⟩ = some (.int .i64 (es.getD i ⟨0, 0⟩).what) ∧ w.cell? ⟨b, i * 2 + 1, none⟩ = some (.int .i64 (es.getD i ⟨0, 0⟩).val) ∧
  w.frozen? ⟨b, i * 2 + 1, none⟩ = false
theorem own_block {w : World} {base : Nat} {e : TypeId} {size n : Nat} {v : Value} {xs : List Value} (h : w.ownsRow base e size v n xs) (hn : 0 < n) :
  ∃ g cap cur, v = .slice (some ⟨g, 0, none⟩) n cap ∧ base ≤ g ∧ Blk w g e cur ∧ n ≤ cap ∧ cap ≤ maxLen ∧ cur.size = cap * size ∧ cur.toList.take (n * size) = xs := by
 rcases h.2 with ⟨_, h0⟩ | ⟨g, cap, cur, hv, hb, hg, r⟩
 ·omega
 ·exact ⟨g, cap, cur, hv, hb, hg, r⟩
theorem ents_of {w : World} {base : Nat} {a : Option Addr} {c : Nat} {es : List EntD} (h : w.ownsRow base 217 2 (.slice a es.length c) es.length (es.flatMap entCells)) : EntsIn w a es := by
 intro i hi
 obtain ⟨g, cap, cur, hv, hb, hg, h1, h2, h3, h4⟩ := own_block h (by omega)
 simp at hv
 obtain ⟨rfl, rfl⟩ := hv
 have hat : ∀ j, j < 2 → w.cell? ⟨g, i * 2 + j, none⟩ = (entCells (es.getD i ⟨0, 0⟩))[j]? := by
  intro j hj
  rw [hg.cell]
  have e1 : (es.flatMap entCells)[i * 2 + j]? = (entCells (es.getD i ⟨0, 0⟩))[j]? := by
   rw [flat_at (n := 2) (fun _ => rfl) es i j hj]
   simp [List.getElem?_eq_getElem hi]
  rw [← e1, ← h4, List.getElem?_take, if_pos (by omega), Array.getElem?_toList]
 refine ⟨g, rfl, ?_, ?_, hg.frozen _⟩
 ·have := hat 0 (by omega); simpa [entCells] using this
 ·have := hat 1 (by omega); simpa [entCells] using this
theorem entIdx_none {es : List EntD} {what : Int} (h : ∀ j, j < es.length → ((es.getD j ⟨0, 0⟩).what == what) = false) : entIdx es what = none := by
 unfold entIdx
 rw [List.findIdx?_eq_none_iff]
 intro x hx
 obtain ⟨j, hj, rfl⟩ := List.mem_iff_getElem.1 hx
 simpa [List.getD, List.getElem?_eq_getElem hj] using h j hj
theorem entIdx_some {es : List EntD} {what : Int} {k : Nat} (hk : k < es.length) (h : ∀ j, j < k → ((es.getD j ⟨0, 0⟩).what == what) = false) (h1 : ((es.getD k ⟨0, 0⟩).what == what) = true) : entIdx es what = some k := by
 unfold entIdx
 rw [List.findIdx?_eq_some_iff_getElem]
 refine ⟨hk, by simpa [List.getD, List.getElem?_eq_getElem hk] using h1, fun j hj => ?_⟩
 have := h j hj
 simpa [List.getD, List.getElem?_eq_getElem (show j < es.length by omega)] using this
def NumsIn (w : World) (a : Option Addr) (zs : List Int) : Prop := ∀ i, i < zs.length → ∃ b, a = some ⟨b, 0, none⟩ ∧ w.cell? ⟨b, i, none⟩ = some (.int .i64 (zs.getD i 0))
theorem nums_of {w : World} {base : Nat} {a : Option Addr} {c : Nat} {zs : List Int} (h : w.ownsRow base 3 1 (.slice a zs.length c) zs.length (zs.map (.int .i64 ·))) : NumsIn w a zs := by
 intro i hi
 obtain ⟨g, cap, cur, hv, hb, hg, h1, h2, h3, h4⟩ := own_block h (by omega)
 simp at hv
 obtain ⟨rfl, rfl⟩ := hv
 refine ⟨g, rfl, ?_⟩
 rw [hg.cell]
 have e1 : (zs.map (Value.int .i64 ·))[i]? = some (.int .i64 (zs.getD i 0)) := by simp [List.getElem?_eq_getElem hi]
 rw [← e1, ← h4, List.getElem?_take, if_pos (by omega), Array.getElem?_toList]
end Go.Proofs.YtejadojilncbjabGreat
namespace Go.Proofs.YtejadojilncbjabGreat
open Go.RowKit
set_option linter.unusedVariables false
attribute [local go_sem ↓] Go.wp_at_zero Go.wp_at_succ
theorem LifeR.below {E : Env} {H : Hd} {B p eb : Nat} {w w' : World} {s : LS} (h : LifeR E H B p eb w s) (hb : Below w.heap.size w w') : LifeR E H B p eb w' s :=
 h.keep (chg := []) (Kp.below hb h.stat.size) (by simp) (by simp) (by simp) (by simp)
theorem TryR.below {B p eb xb : Nat} {w w' : World} {x : TS} (h : TryR B p eb xb w x) (hb : Below w.heap.size w w') (hB : B ≤ w.heap.size) : TryR B p eb xb w' x :=
 h.keep (chg := []) (p := p) (eb := eb) (Kp.below hb hB) (by simp) (by simp) (by simp)
theorem LifeR.drewN {E : Env} {H : Hd} {B p eb : Nat} {w : World} {s : LS} (h : LifeR E H B p eb w s) (n : Nat) : LifeR E H B p eb (w.drewN n) s := h.below (below_drewN (Below.refl _ _) n)
theorem LifeR.drew {E : Env} {H : Hd} {B p eb : Nat} {w : World} {s : LS} (h : LifeR E H B p eb w s) : LifeR E H B p eb w.drew s := h.below (Below.refl _ _).drew
theorem TryR.drewN {B p eb xb : Nat} {w : World} {x : TS} (h : TryR B p eb xb w x) (n : Nat) : TryR B p eb xb (w.drewN n) x := by
 obtain ⟨ca, cc, ra, rc, wa, wc, ha, hc, h1⟩ := h.blk
 exact ⟨⟨ca, cc, ra, rc, wa, wc, ha, hc, h1⟩, h.xB, h.regs⟩
theorem TryR.drew {B p eb xb : Nat} {w : World} {x : TS} (h : TryR B p eb xb w x) : TryR B p eb xb w.drew x := by
 obtain ⟨ca, cc, ra, rc, wa, wc, ha, hc, h1⟩ := h.blk
 exact ⟨⟨ca, cc, ra, rc, wa, wc, ha, hc, h1⟩, h.xB, h.regs⟩
theorem TryR.held {B p eb xb : Nat} {w : World} {x : TS} (h : TryR B p eb xb w x) : ∃ ha hc, w.cell? ⟨xb, 10, none⟩ = some (.slice ha x.held.length hc) ∧ NumsIn w ha x.held := by
 obtain ⟨ca, cc, ra, rc, wa, wc, ha, hc, hb, hcd, hcf, h3, h4, h5, h6⟩ := h.blk
 exact ⟨ha, hc, by rw [hb.cell]; rfl, nums_of h5⟩
end Go.Proofs.YtejadojilncbjabGreat
namespace Go.Proofs.YtejadojilncbjabGreat
open Go.RowKit
set_option linter.unusedVariables false
theorem own_set {w : World} {base : Nat} {e : TypeId} {size n g cap i : Nat} {xs : List Value} (h : w.ownsRow base e size (.slice (some ⟨g, 0, none⟩) n cap) n xs) (hi : i < n * size) (u : Value) :
  (w.setCell ⟨g, i, none⟩ u).ownsRow base e size (.slice (some ⟨g, 0, none⟩) n cap) n (xs.set i u) := by
 refine ⟨by simpa using h.1, ?_⟩
 rcases h.2 with ⟨h0, _⟩ | ⟨g', cap', cur, hv, hb, hg, r1, r2, r3, r4⟩
 ·cases h0
 ·simp at hv
  obtain ⟨rfl, rfl⟩ := hv
  have hg' : Blk w g e cur := hg
  refine .inr ⟨g, cap, cur.setIfInBounds i u, rfl, hb, hg'.set, r1, r2, by simpa using r3, ?_⟩
  rw [Array.toList_setIfInBounds, List.take_set, r4]
theorem flat_set {α : Type} {f : α → List Value} {n : Nat} (hf : ∀ a, (f a).length = n) : ∀ (l : List α) (i j : Nat) (u : Value) (b : α), j < n → i < l.length → (∀ a, l[i]? = some a → f b = (f a).set j u) → (l.flatMap f).set (i * n + j) u = (l.set i b).flatMap f
 | [], i, j, u, b, hj, hi, h => by simp at hi
 | a :: l, 0, j, u, b, hj, hi, h => by
  have h0 := h a rfl
  rw [List.flatMap_cons, Nat.zero_mul, Nat.zero_add, List.set_append, if_pos (by rw [hf]; exact hj), List.set_cons_zero, List.flatMap_cons, h0]
 | a :: l, i + 1, j, u, b, hj, hi, h => by
  rw [List.flatMap_cons, List.set_append, if_neg (by rw [hf, Nat.add_mul]; omega), hf, show (i + 1) * n + j - n = i * n + j from by rw [Nat.add_mul]; omega,
      flat_set hf l i j u b hj (by simpa using hi) (fun c hc => h c (by simpa using hc)), List.set_cons_succ, List.flatMap_cons]
theorem zip_set {α β : Type} : ∀ (l : List α) (m : List β) (n : Nat) (a : α) (b : β), (l.zip m).set n (a, b) = (l.set n a).zip (m.set n b)
 | [], _, _, _, _ => by simp
 | _ :: _, [], _, _, _ => by simp
 | x :: l, y :: m, 0, a, b => by simp
 | x :: l, y :: m, n + 1, a, b => by simp [zip_set l m n a b]
theorem rowCells_set {L : List AttD} {nvs : List Value} {n j : Nat} {u : Value} {a : AttD} {nv : Value} {a' : AttD} {nv' : Value} (hl : nvs.length = L.length) (hn : n < L.length) (hj : j < 8) (ha : L[n]? = some a) (hv : nvs[n]? = some nv)
  (he : attCells a' nv' = (attCells a nv).set j u) : (rowCells L nvs).set (n * 8 + j) u = rowCells (L.set n a') (nvs.set n nv') := by
 unfold rowCells
 rw [flat_set (f := fun q : AttD × Value => attCells q.1 q.2) (n := 8) (fun _ => rfl) (L.zip nvs) n j u (a', nv') hj (by simp; omega) (fun q hq => ?_)]
 ·congr 1
  rw [zip_set]
 ·have : (L.zip nvs)[n]? = some (a, nv) := by rw [List.getElem?_zip_eq_some]; exact ⟨ha, hv⟩
  rw [this] at hq
  simp at hq
  subst hq
  exact he
theorem modLast_eq {L : List AttD} {n : Nat} {a : AttD} (f : AttD → AttD) (hn : L.length = n + 1) (ha : L[n]? = some a) : modLast L f = L.set n (f a) := by
 unfold modLast
 rw [hn, Nat.add_sub_cancel]
 apply List.ext_getElem?
 intro i
 rw [List.getElem?_modify, List.getElem?_set]
 by_cases h : n = i
 ·subst h
  rw [ha]
  simp
  omega
 ·simp [h]
theorem ListRep.num {w : World} {B g lc n j : Nat} {L : List AttD} {v : Int} {f : AttD → AttD} (h : ListRep w B (some ⟨g, 0, none⟩) lc L) (hn : L.length = n + 1) (hj : j < 7)
  (hf : ∀ a nv, attCells (f a) nv = (attCells a nv).set j (.int .i64 v)) (hfn : ∀ a, (f a).notes = a.notes) : ListRep (w.setCell ⟨g, n * 8 + j, none⟩ (.int .i64 v)) B (some ⟨g, 0, none⟩) lc (modLast L f) := by
 obtain ⟨nvs, hl, ho, hno, hd⟩ := h
 obtain ⟨a, ha⟩ : ∃ a, L[n]? = some a := ⟨L[n]'(by omega), List.getElem?_eq_getElem (by omega)⟩
 obtain ⟨nv, hv⟩ : ∃ nv, nvs[n]? = some nv := ⟨nvs[n]'(by omega), List.getElem?_eq_getElem (by omega)⟩
 rw [modLast_eq f hn ha]
 have hg : ∃ cur, Blk w g 82 cur := by
  obtain ⟨g', cap, cur, hv', _, hb, _⟩ := own_block ho (by omega)
  simp at hv'
  obtain ⟨rfl, _⟩ := hv'
  exact ⟨cur, hb⟩
 obtain ⟨cur, hg⟩ := hg
 have hk : Kp [82] B g g w (w.setCell ⟨g, n * 8 + j, none⟩ (.int .i64 v)) := ⟨rfl, rfl, rfl, by simp [World.setCell], fun k _ h1 _ => Below.heap_setCell _ _ _ _ (by simpa using h1), fun k t cs fr hk ht => by
     rw [Below.heap_setCell _ _ _ _ (fun e => ht (by
               simp at e
               subst e
               have : w.heap[k]? = some (.cells cur 82 (0, 0)) := hg
               rw [this] at hk
               simp at hk
               simp [← hk.2.1]))]
     exact hk⟩
 refine ⟨nvs, by simpa using hl, ?_, fun i b u hi hu => ?_, hd⟩
 ·have h1 := own_set ho (i := n * 8 + j) (by omega) (.int .i64 v)
  rw [rowCells_set hl (by omega) (by omega) ha hv (hf a nv)] at h1
  have e : nvs.set n nv = nvs := by
   apply List.ext_getElem? ; intro i; rw [List.getElem?_set]; split
   ·rename_i h; subst h; simp [hv]; omega
   ·rfl
  rw [e] at h1
  simpa using h1
 ·have hnn : ∃ a0, L[i]? = some a0 ∧ b.notes = a0.notes := by
   rw [List.getElem?_set] at hi
   split at hi
   ·rename_i h; subst h
    rw [if_pos (by omega)] at hi
    simp at hi
    exact ⟨a, ha, by rw [← hi, hfn]⟩
   ·exact ⟨b, hi, rfl⟩
  obtain ⟨a0, h0, h1⟩ := hnn
  rw [h1]
  exact ownsRow_keep (hno i a0 u h0 hu) hk (by simp)
theorem ListRep.note {w w0 w1 : World} {B g lc n : Nat} {L : List AttD} {nvs : List Value} {a : AttD} {nv : Value} {q : NoteD} {gn cap : Nat} (hl : nvs.length = L.length)
  (ho : w.ownsRow B 82 8 (.slice (some ⟨g, 0, none⟩) L.length lc) L.length (rowCells L nvs)) (hno : ∀ (i : Nat) (a : AttD) (nv : Value), L[i]? = some a → nvs[i]? = some nv → w.ownsRow B 93 3 nv a.notes.length (a.notes.flatMap noteCells))
  (hd : ∀ (i j : Nat) (u v : Value) (k : Nat), nvs[i]? = some u → nvs[j]? = some v → u.ownBlock = some k → v.ownBlock = some k → i = j) (hn : L.length = n + 1) (ha : L[n]? = some a) (hv : nvs[n]? = some nv)
  (hb0 : Below w.heap.size w w0) (hB : B ≤ w.heap.size) (hgr : w0.grownBy w1 nv.ownBlock) (hown : w1.ownsRow B 93 3 (.slice (some ⟨gn, 0, none⟩) (a.notes.length + 1) cap) (a.notes.length + 1) (a.notes.flatMap noteCells ++ noteCells q))
  (hat : nv.ownBlock = some gn ∨ w.heap.size ≤ gn) :
  ListRep (w1.setCell ⟨g, n * 8 + 7, none⟩ (.slice (some ⟨gn, 0, none⟩) (a.notes.length + 1) cap)) B (some ⟨g, 0, none⟩) lc (modLast L fun a => { a with notes := a.notes ++ [q] }) := by
 have hk0 : Kp [93] B 0 0 w w0 := Kp.below hb0 hB
 have ho0 : w0.ownsRow B 93 3 nv a.notes.length (a.notes.flatMap noteCells) := ownsRow_keep (hno n a nv ha hv) (Kp.below (chg := []) (p := 0) (eb := 0) hb0 hB) (by simp)
 have hk1 : Kp [93] B 0 0 w0 w1 := Kp.grown hgr (Nat.le_trans hB hb0.size) ho0 (by simp)
 have ho1 : w1.ownsRow B 82 8 (.slice (some ⟨g, 0, none⟩) L.length lc) L.length (rowCells L nvs) := ownsRow_keep ho (hk0.trans hk1) (by simp)
 obtain ⟨g', cap', cur, hv', _, hb, _⟩ := own_block ho1 (by omega)
 simp at hv'
 obtain ⟨rfl, rfl⟩ := hv'
 have hk2 : Kp [82] B g g w1 (w1.setCell ⟨g, n * 8 + 7, none⟩ (.slice (some ⟨gn, 0, none⟩) (a.notes.length + 1) cap)) := ⟨rfl, rfl, rfl, by simp [World.setCell], fun k _ h1 _ => Below.heap_setCell _ _ _ _ (by simpa using h1), fun k t cs fr hk ht => by
     rw [Below.heap_setCell _ _ _ _ (fun e => ht (by
               simp at e
               subst e
               have : w1.heap[k]? = some (.cells cur 82 (0, 0)) := hb
               rw [this] at hk
               simp at hk
               simp [← hk.2.1]))]
     exact hk⟩
 rw [modLast_eq _ hn ha]
 refine ⟨nvs.set n (.slice (some ⟨gn, 0, none⟩) (a.notes.length + 1) cap), by simpa using hl, ?_, fun i b u hi hu => ?_, fun i j u v k hi hj hu hv2 => ?_⟩
 ·have h1 := own_set ho1 (i := n * 8 + 7) (by omega) (.slice (some ⟨gn, 0, none⟩) (a.notes.length + 1) cap)
  rw [rowCells_set (a' := { a with notes := a.notes ++ [q] }) hl (by omega) (by omega) ha hv rfl] at h1
  simpa using h1
 ·by_cases hin : i = n
  ·subst hin
   simp [show i < L.length by omega, show i < nvs.length by omega] at hi hu
   subst hi hu
   have := ownsRow_keep hown hk2 (by simp)
   simpa [List.flatMap_append] using this
  ·rw [List.getElem?_set, if_neg (by omega)] at hi hu
   have h3 := ownsRow_keep (hno i b u hi hu) (Kp.below (chg := []) (p := 0) (eb := 0) hb0 hB) (by simp)
   refine ownsRow_keep (h3.kept hgr ?_) hk2 (by simp)
   cases hub : u.ownBlock with
   | none => exact Or.inl rfl
   | some k => exact Or.inr (fun e => hin (hd i n u nv k hu hv hub e.symm))
 ·have hlow : ∀ (i : Nat) (u : Value) (k : Nat), nvs[i]? = some u → u.ownBlock = some k → k < w.heap.size := fun i u k hi hu => by
   have hiL : i < L.length := by rw [← hl]; exact (List.getElem?_eq_some_iff.1 hi).1
   exact ((hno i L[i] u (List.getElem?_eq_getElem hiL) hi).lt k hu).2
  by_cases hin : i = n <;> by_cases hjn : j = n
  ·omega
  ·subst hin
   rw [List.getElem?_set, if_neg (by omega)] at hj
   simp [show i < nvs.length by omega] at hi
   subst hi
   simp [Value.ownBlock] at hu
   subst hu
   rcases hat with hat | hat
   ·exact hd i j nv v gn hv hj hat hv2
   ·have := hlow j v gn hj hv2; omega
  ·subst hjn
   rw [List.getElem?_set, if_neg (by omega)] at hi
   simp [show j < nvs.length by omega] at hj
   subst hj
   simp [Value.ownBlock] at hv2
   subst hv2
   rcases hat with hat | hat
   ·exact hd i j u nv gn hi hv hu hat
   ·have := hlow i u gn hi hu; omega
  ·rw [List.getElem?_set, if_neg (by omega)] at hi hj
   exact hd i j u v k hi hj hu hv2
end Go.Proofs.YtejadojilncbjabGreat
namespace Go.Proofs.YtejadojilncbjabGreat
open Go.RowKit
set_option linter.unusedVariables false
attribute [local go_sem ↓] Go.wp_at_zero Go.wp_at_succ
theorem LifeR.last {E : Env} {H : Hd} {B p eb : Nat} {w : World} {s : LS} (hL : LifeR E H B p eb w s) (hne : s.list ≠ []) :
  ∃ g lc n cur, s.list.length = n + 1 ∧ Blk w p 154 (lifeArr E H (some ⟨g, 0, none⟩) lc s) ∧ ListRep w B (some ⟨g, 0, none⟩) lc s.list ∧ Blk w g 82 cur ∧ B ≤ g ∧ n * 8 + 7 < cur.size := by
 obtain ⟨la, lc, hb, hl⟩ := hL.life
 have hl' := hl
 obtain ⟨nvs, hnl, ho, hno, hd⟩ := hl'
 obtain ⟨n, hn⟩ : ∃ n, s.list.length = n + 1 := ⟨s.list.length - 1, by have := List.length_pos_iff.2 hne; omega⟩
 obtain ⟨g, cap, cur, hgv, hgB, hgb, r1, r2, r3, r4⟩ := own_block ho (by omega)
 simp at hgv
 obtain ⟨rfl, rfl⟩ := hgv
 exact ⟨g, lc, n, cur, hn, hb, hl, hgb, hgB, by omega⟩
theorem LifeR.num {E : Env} {H : Hd} {B p eb g lc n j : Nat} {w : World} {s : LS} {v : Int} {f : AttD → AttD} {cur : Array Value} (hL : LifeR E H B p eb w s) (hn : s.list.length = n + 1) (hb : Blk w p 154 (lifeArr E H (some ⟨g, 0, none⟩) lc s))
  (hl : ListRep w B (some ⟨g, 0, none⟩) lc s.list) (hg : Blk w g 82 cur) (hgB : B ≤ g) (hj : j < 7) (hf : ∀ a nv, attCells (f a) nv = (attCells a nv).set j (.int .i64 v)) (hfn : ∀ a, (f a).notes = a.notes) :
  LifeR E H B p eb (w.setCell ⟨g, n * 8 + j, none⟩ (.int .i64 v)) { s with list := modLast s.list f } ∧ Kp [82] B p eb w (w.setCell ⟨g, n * 8 + j, none⟩ (.int .i64 v)) := by
 have hk : Kp [82] B p eb w (w.setCell ⟨g, n * 8 + j, none⟩ (.int .i64 v)) := Kp.only (Only.refl _ _).set hL.stat.size hg (by simp) (Or.inr (Or.inr hgB))
 refine ⟨⟨hL.stat.keep hk, ⟨some ⟨g, 0, none⟩, lc, ?_, hl.num hn hj hf hfn⟩, hL.ends.imp id (fun ⟨x, y⟩ => ⟨x, y.keep hk (by simp)⟩), hL.pB, hL.eB, hL.pe⟩, hk⟩
 refine (hb.keep hk (by simp)).congr ?_
 simp [lifeArr, modLast]
theorem TryR.reads {B p eb xb : Nat} {w : World} {x : TS} (h : TryR B p eb xb w x) : ∃ ra rc, w.cell? ⟨xb, 8, none⟩ = some (.slice ra x.reads.length rc) ∧ EntsIn w ra x.reads := by
 obtain ⟨ca, cc, ra, rc, wa, wc, ha, hc, hb, hcd, hcf, h3, h4, h5, h6⟩ := h.blk
 exact ⟨ra, rc, by rw [hb.cell]; rfl, ents_of h3⟩
theorem LifeR.over {E : Env} {H : Hd} {B p eb : Nat} {w : World} {s : LS} (h : LifeR E H B p eb w s) : w.cell? ⟨p, 14, none⟩ = some (.bool s.over) := by
 obtain ⟨la, lc, hb, _⟩ := h.life
 rw [hb.cell]; rfl
theorem Kp.up {chg : List TypeId} {B p eb : Nat} {w w' : World} (h : Kp [] B p eb w w') : Kp chg B p eb w w' := h.wide (by simp)
theorem TryR.set {B p eb xb i : Nat} {w : World} {x x' : TS} {v : Value} (hT : TryR B p eb xb w x) (hB : B ≤ w.heap.size) (h1 : x'.code = x.code) (h2 : x'.reads = x.reads) (h3 : x'.writes = x.writes) (h4 : x'.held = x.held) (h5 : x'.regs.length = 4)
  (ha : ∀ ca cc ra rc wa wc ha hc, (tryArr ca cc ra rc wa wc ha hc x).setIfInBounds i v = tryArr ca cc ra rc wa wc ha hc x') : TryR B p eb xb (w.setCell ⟨xb, i, none⟩ v) x' ∧ Kp [208] B p eb w (w.setCell ⟨xb, i, none⟩ v) := by
 obtain ⟨ca, cc, ra, rc, wa, wc, hha, hc, hb, hcd, hcf, g3, g4, g5, g6⟩ := hT.blk
 have hk : Kp [208] B p eb w (w.setCell ⟨xb, i, none⟩ v) := Kp.only (Only.refl _ _).set hB hb (by simp) (Or.inr (Or.inr hT.xB))
 refine ⟨⟨⟨ca, cc, ra, rc, wa, wc, hha, hc, hb.set.congr (ha ..), by rw [h1]; exact hcd.keep hcf hk, by rw [h1]; exact hcf, by rw [h2]; exact ownsRow_keep g3 hk (by simp), by rw [h3]; exact ownsRow_keep g4 hk (by simp), by rw [h4]; exact ownsRow_keep g5 hk (by simp), by rw [h2, h3]; exact g6⟩, hT.xB, h5⟩, hk⟩
theorem TryR.cells {B p eb xb : Nat} {w : World} {x : TS} (hT : TryR B p eb xb w x) : ∃ ca cc ra rc wa wc ha hc, (∀ i, w.cell? ⟨xb, i, none⟩ = (tryArr ca cc ra rc wa wc ha hc x)[i]?) ∧ (∀ i, w.frozen? ⟨xb, i, none⟩ = false) := by
 obtain ⟨ca, cc, ra, rc, wa, wc, hha, hc, hb, _⟩ := hT.blk
 exact ⟨ca, cc, ra, rc, wa, wc, hha, hc, hb.cell, hb.frozen⟩
end Go.Proofs.YtejadojilncbjabGreat
namespace Go.Proofs.YtejadojilncbjabGreat
open Go.RowKit
set_option linter.unusedVariables false
theorem Tryz.info3 : (Tryz.prog.info? 3).map (fun i => (i.zero, i.size, i.bytes)) = some (some (.int .i64 0), 1, 8) := by kernel_rfl
section
variable {B p eb xb : Nat} {w w0 w1 : World} {x : TS} {ca ra wa ha : Option Addr} {cc rc wc hc g cap : Nat}
end
def enough (E : Env) (s : LS) (n : Nat) : Prop := 1 ≤ n ∧ (s.over = false → E.seen.length - s.pos + 2 ≤ n)
end Go.Proofs.YtejadojilncbjabGreat
namespace Go.Proofs.YtejadojilncbjabGreat
open Go.RowKit
set_option linter.unusedVariables false
attribute [local go_sem ↓] Go.wp_at_zero Go.wp_at_succ
theorem Tryz.info93 : (Tryz.prog.info? 93).map (fun i => (i.zero, i.size, i.bytes)) = some (some (.agg #[.int .i64 0, .int .i64 0, .int .i64 0]), 3, 24) := by kernel_rfl
theorem TryR.writes {B p eb xb : Nat} {w : World} {x : TS} (h : TryR B p eb xb w x) : ∃ wa wc, w.cell? ⟨xb, 9, none⟩ = some (.slice wa x.writes.length wc) ∧ EntsIn w wa x.writes := by
 obtain ⟨ca, cc, ra, rc, wa, wc, ha, hc, hb, hcd, hcf, h3, h4, h5, h6⟩ := h.blk
 exact ⟨wa, wc, by rw [hb.cell]; rfl, ents_of h4⟩
end Go.Proofs.YtejadojilncbjabGreat
namespace Go.Proofs.YtejadojilncbjabGreat
set_option linter.unusedVariables false
structure TsOk (n : Nat) (x : TS) : Prop where
 rd : ∀ e ∈ x.reads, -8 ≤ e.what ∧ e.what ≤ 8
 wr : ∀ e ∈ x.writes, -70000 ≤ e.what ∧ e.what ≤ 1125899906842624
 hd : ∀ h ∈ x.held, -8 ≤ h ∧ h ≤ 8
 rg : ∀ r ∈ x.regs, -70000 ≤ r ∧ r ≤ 1125899906842624
 rl : x.reads.length ≤ n
 wl : x.writes.length ≤ n
 hl : x.held.length ≤ n
 way0 : -2 ≤ x.way
 way1 : x.way ≤ 1125899906842624
 four : x.regs.length = 4
theorem TsOk.more {n m : Nat} {x : TS} (h : TsOk n x) (hm : n ≤ m) : TsOk m x := ⟨h.rd, h.wr, h.hd, h.rg, Nat.le_trans h.rl hm, Nat.le_trans h.wl hm, Nat.le_trans h.hl hm, h.way0, h.way1, h.four⟩
theorem TsOk.setReg {n : Nat} {x : TS} (h : TsOk n x) (i v : Int) (h1 : -70000 ≤ v) (h2 : v ≤ 1125899906842624) : TsOk n (setReg x i v) :=
 ⟨h.rd, h.wr, h.hd, fun r hr => by
     rcases List.mem_or_eq_of_mem_set hr with h3 | h3
     ·exact h.rg r h3
     ·rw [h3]; exact ⟨h1, h2⟩, h.rl, h.wl, h.hl, h.way0, h.way1, by simp [Go.Proofs.YtejadojilncbjabGreat.setReg, h.four]⟩
def SN (s s' : LS) : Prop := s'.list.map (fun a => a.notes.length) = s.list.map (fun a => a.notes.length)
theorem SN.refl (s : LS) : SN s s := rfl
theorem SN.trans {a b c : LS} (h : SN a b) (k : SN b c) : SN a c := Eq.trans k h
theorem SN.modLast {s s' : LS} {f : AttD → AttD} (hf : ∀ a, (f a).notes = a.notes) (h : s'.list = Go.Proofs.YtejadojilncbjabGreat.modLast s.list f) : SN s s' := by
 unfold SN
 rw [h]
 unfold Go.Proofs.YtejadojilncbjabGreat.modLast
 apply List.ext_getElem?
 intro i
 rw [List.getElem?_map, List.getElem?_map, List.getElem?_modify]
 cases s.list[i]? with
 | none => simp
 | some a => by_cases h : s.list.length - 1 = i <;> simp [h, hf]
structure NotesOk (n : Nat) (s : LS) : Prop where
 ne : s.list ≠ []
 len : s.list.length ≤ 2 ^ 42
 nt : ∀ a ∈ s.list, a.notes.length ≤ n
theorem NotesOk.sn {n : Nat} {s s' : LS} (h : NotesOk n s) (k : SN s s') : NotesOk n s' := by
 have hl : s'.list.length = s.list.length := by have := congrArg List.length k; simpa using this
 refine ⟨fun e => h.ne ?_, by rw [hl]; exact h.len, fun a ha => ?_⟩
 ·rw [e] at hl; exact List.length_eq_zero_iff.1 hl.symm
 ·have h1 : a.notes.length ∈ s'.list.map (fun a => a.notes.length) := List.mem_map_of_mem ha
  rw [k] at h1
  obtain ⟨b, hb, e⟩ := List.mem_map.1 h1
  rw [← e]; exact h.nt b hb
structure LsOk (E : Env) (s s' : LS) : Prop where
 pos : s'.pos ≤ E.seen.length
 mono : s.pos ≤ s'.pos
 sn : SN s s'
 rank : s'.rank = s.rank
 fails : s'.fails = s.fails
theorem LsOk.refl {E : Env} {s : LS} (h : s.pos ≤ E.seen.length) : LsOk E s s := ⟨h, Nat.le_refl _, SN.refl _, rfl, rfl⟩
theorem LsOk.trans {E : Env} {a b c : LS} (h : LsOk E a b) (k : LsOk E b c) : LsOk E a c := ⟨k.pos, Nat.le_trans h.mono k.mono, h.sn.trans k.sn, k.rank.trans h.rank, k.fails.trans h.fails⟩
end Go.Proofs.YtejadojilncbjabGreat
namespace Go.Proofs.YtejadojilncbjabGreat
open Go.RowKit
set_option linter.unusedVariables false
attribute [local go_sem ↓] Go.wp_at_zero Go.wp_at_succ
theorem lt4 {k : Nat} (h : k < 4) : k = 0 ∨ k = 1 ∨ k = 2 ∨ k = 3 := by omega
theorem TryR.setReg {B p eb xb : Nat} {w : World} {x : TS} (hT : TryR B p eb xb w x) (hB : B ≤ w.heap.size) (k : Nat) (hk : k < 4) (v : Int) :
  TryR B p eb xb (w.setCell ⟨xb, 1 + k, none⟩ (.int .i64 v)) { x with regs := x.regs.set k v } ∧ Kp [208] B p eb w (w.setCell ⟨xb, 1 + k, none⟩ (.int .i64 v)) := by
 refine hT.set hB rfl rfl rfl rfl (by simp [hT.regs]) (fun _ _ _ _ _ _ _ _ => ?_)
 have h4 := hT.regs
 obtain ⟨code, regs, place, begun, valid, reads, writes, held, inGate, way⟩ := x
 match regs, h4 with
 | [r0, r1, r2, r3], _ =>
  rcases lt4 hk with rfl | rfl | rfl | rfl <;> rfl
theorem LifeR.rank {E : Env} {H : Hd} {B p eb : Nat} {w : World} {s : LS} (h : LifeR E H B p eb w s) : w.cell? ⟨p, 19, none⟩ = some (.int .i64 s.rank) := by
 obtain ⟨la, lc, hb, _⟩ := h.life
 rw [hb.cell]; rfl
theorem TsOk.putEnt {n : Nat} {x : TS} (h : TsOk n x) (a v : Int) (h1 : -70000 ≤ a) (h2 : a ≤ 1125899906842624) : TsOk (n + 1) { x with writes := Go.Proofs.YtejadojilncbjabGreat.putEnt x.writes a v } := by
 have hw : (∀ e ∈ Go.Proofs.YtejadojilncbjabGreat.putEnt x.writes a v, -70000 ≤ e.what ∧ e.what ≤ 1125899906842624) ∧ (Go.Proofs.YtejadojilncbjabGreat.putEnt x.writes a v).length ≤ n + 1 := by
  unfold Go.Proofs.YtejadojilncbjabGreat.putEnt
  split
  ·refine ⟨fun e he => ?_, by have := h.wl; simp; omega⟩
   rcases List.mem_or_eq_of_mem_set he with h3 | h3
   ·exact h.wr e h3
   ·rw [h3]; exact ⟨h1, h2⟩
  ·refine ⟨fun e he => ?_, by have := h.wl; simp; omega⟩
   rcases List.mem_append.1 he with h3 | h3
   ·exact h.wr e h3
   ·simp at h3; subst h3; exact ⟨h1, h2⟩
 exact ⟨h.rd, hw.1, h.hd, h.rg, Nat.le_trans h.rl (Nat.le_succ n), hw.2, Nat.le_trans h.hl (Nat.le_succ n), h.way0, h.way1, h.four⟩
theorem wrapF (n : Int) (h1 : -1152921504606846976 ≤ n) (h2 : n ≤ 1152921504606846976) : IntKind.i64.wrap n = n := by rw [IntKind.wrap_i64]; omega
theorem LifeR.set {E : Env} {H : Hd} {B p eb i : Nat} {w : World} {s s' : LS} {v : Value} (hL : LifeR E H B p eb w s) (h1 : s'.list = s.list) (h2 : s'.ends = s.ends) (ha : ∀ la lc, (lifeArr E H la lc s).setIfInBounds i v = lifeArr E H la lc s') :
  LifeR E H B p eb (w.setCell ⟨p, i, none⟩ v) s' ∧ Kp [154] B p eb w (w.setCell ⟨p, i, none⟩ v) := by
 obtain ⟨la, lc, hb, hl⟩ := hL.life
 have hk : Kp [154] B p eb w (w.setCell ⟨p, i, none⟩ v) := Kp.only (Only.refl _ _).set hL.stat.size hb (by simp) (Or.inl rfl)
 refine ⟨⟨hL.stat.keep hk, ⟨la, lc, hb.set.congr (ha la lc), by rw [h1]; exact hl.keep hk (by simp) (by simp)⟩, ?_, hL.pB, hL.eB, hL.pe⟩, hk⟩
 rw [h2]
 exact hL.ends.imp id (fun ⟨a, b⟩ => ⟨a, b.keep hk (by simp)⟩)
end Go.Proofs.YtejadojilncbjabGreat
namespace Go.Proofs.YtejadojilncbjabGreat
set_option linter.unusedVariables false
def Same (x x' : TS) : Prop := x'.code = x.code ∧ x'.place = x.place ∧ x'.begun = x.begun ∧ x'.writes = x.writes ∧ x'.regs = x.regs
theorem Same.refl (x : TS) : Same x x := ⟨rfl, rfl, rfl, rfl, rfl⟩
theorem Same.trans {a b c : TS} (h : Same a b) (k : Same b c) : Same a c := ⟨k.1.trans h.1, k.2.1.trans h.2.1, k.2.2.1.trans h.2.2.1, k.2.2.2.1.trans h.2.2.2.1, k.2.2.2.2.trans h.2.2.2.2⟩
def WvOk (x : TS) : Prop := ∀ e ∈ x.writes, -70000 ≤ e.val ∧ e.val ≤ 1125899906842624
theorem SN.len {s s' : LS} (h : SN s s') : s'.list.length = s.list.length := by have := congrArg List.length h; simpa using this
theorem NotesOk.more {n m : Nat} {s : LS} (h : NotesOk n s) (hm : n ≤ m) : NotesOk m s := ⟨h.ne, h.len, fun a ha => Nat.le_trans (h.nt a ha) hm⟩
theorem NotesOk.noted {n : Nat} {s : LS} (h : NotesOk n s) (op addr val : Int) : NotesOk (n + 1) (mNoted s op addr val) := by
 have hl : (mNoted s op addr val).list.length = s.list.length := by simp [mNoted, modLast]
 refine ⟨fun e => h.ne ?_, by rw [hl]; exact h.len, fun a ha => ?_⟩
 ·rw [e] at hl; exact List.length_eq_zero_iff.1 hl.symm
 ·obtain ⟨i, hi, rfl⟩ := List.mem_iff_getElem.1 ha
  have h1 : (mNoted s op addr val).list[i]? = some ((mNoted s op addr val).list[i]) := List.getElem?_eq_getElem hi
  have hi' : i < s.list.length := by rw [← hl]; exact hi
  have h2 : (mNoted s op addr val).list[i]? = (s.list[i]?).map (if s.list.length - 1 = i then (fun a : AttD => { a with notes := a.notes ++ [⟨op, addr, val⟩] }) else id) := by
   show (modLast s.list _)[i]? = _
   unfold modLast
   rw [List.getElem?_modify]
   cases s.list[i]? with
   | none => rfl
   | some a => by_cases h : s.list.length - 1 = i <;> simp [h]
  rw [h1, List.getElem?_eq_getElem hi'] at h2
  have hb := h.nt s.list[i] (List.getElem_mem hi')
  simp at h2
  rw [h2]
  split
  ·simp; omega
  ·simp; omega
theorem WvOk.of {x x' : TS} (h : WvOk x) (e : x'.writes = x.writes) : WvOk x' := fun y hy => h y (by rw [← e]; exact hy)
end Go.Proofs.YtejadojilncbjabGreat
