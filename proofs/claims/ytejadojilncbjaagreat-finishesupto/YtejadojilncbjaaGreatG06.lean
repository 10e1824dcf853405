import Derived.Test.YtejadojilncbjaaGreatG03
import Derived.OneCell
namespace Go.Proofs.YtejadojilncbjaaGreat
open Go.RowKit
set_option linter.unusedVariables false
structure Kp (chg : List TypeId) (B p eb : Nat) (w w' : World) : Prop where
 os : w'.os = w.os
 tape : w'.tape = w.tape
 output : w'.output = w.output
 size : w.heap.size ≤ w'.heap.size
 low : ∀ k, k < B → k ≠ p → k ≠ eb → w'.heap[k]? = w.heap[k]?
 tag : ∀ (k : Nat) (t : TypeId) (cs : Array Value) (fr : Nat × Nat), w.heap[k]? = some (.cells cs t fr) → t ∉ chg → w'.heap[k]? = some (.cells cs t fr)
theorem Kp.refl (chg : List TypeId) (B p eb : Nat) (w : World) : Kp chg B p eb w w := ⟨rfl, rfl, rfl, Nat.le_refl _, fun _ _ _ _ => rfl, fun _ _ _ _ h _ => h⟩
theorem Kp.trans {chg : List TypeId} {B p eb : Nat} {a b c : World} (h : Kp chg B p eb a b) (k : Kp chg B p eb b c) : Kp chg B p eb a c :=
 ⟨k.os.trans h.os, k.tape.trans h.tape, k.output.trans h.output, Nat.le_trans h.size k.size, fun i hi h1 h2 => (k.low i hi h1 h2).trans (h.low i hi h1 h2), fun i t cs fr hi ht => k.tag i t cs fr (h.tag i t cs fr hi ht) ht⟩
theorem Kp.wide {chg chg' : List TypeId} {B p eb : Nat} {w w' : World} (h : Kp chg B p eb w w') (hs : ∀ t ∈ chg, t ∈ chg') : Kp chg' B p eb w w' :=
 ⟨h.os, h.tape, h.output, h.size, h.low, fun i t cs fr hi ht => h.tag i t cs fr hi (fun hm => ht (hs t hm))⟩
theorem lt_of_heap {w : World} {k : Nat} {o : Obj} (h : w.heap[k]? = some o) : k < w.heap.size := by
 rcases Nat.lt_or_ge k w.heap.size with h' | h'
 ·exact h'
 ·rw [Array.getElem?_eq_none h'] at h; cases h
theorem Kp.below {chg : List TypeId} {B p eb : Nat} {w w' : World} (h : Below w.heap.size w w') (hB : B ≤ w.heap.size) : Kp chg B p eb w w' :=
 ⟨h.os, h.tape, h.output, h.size, fun k hk _ _ => h.block k (by omega), fun k t cs fr hk _ => (h.block k (lt_of_heap hk)).trans hk⟩
theorem Kp.only {chg : List TypeId} {B p eb q : Nat} {w w' : World} {t : TypeId} {cs : Array Value} (h : Only q w w') (hB : B ≤ w.heap.size) (hq : Blk w q t cs) (hc : t ∈ chg) (hl : q = p ∨ q = eb ∨ B ≤ q) : Kp chg B p eb w w' :=
 ⟨h.os, h.tape, h.output, h.size, fun k hk h1 h2 => h.block k (by omega) (by omega), fun k u ds fr hk hu => (h.block k (lt_of_heap hk) (fun e => by
           subst e
           have : w.heap[k]? = some (.cells cs t (0, 0)) := hq
           rw [this] at hk
           simp at hk
           exact hu (hk.2.1 ▸ hc))).trans hk⟩
theorem Kp.grown {chg : List TypeId} {B p eb : Nat} {w w' : World} {e : TypeId} {size n : Nat} {v : Value} {xs : List Value} (h : w.grownBy w' v.ownBlock) (hB : B ≤ w.heap.size) (hv : w.ownsRow B e size v n xs) (hc : e ∈ chg) : Kp chg B p eb w w' := by
 have hlt := hv.lt
 refine ⟨h.os, h.tape, h.output, h.size, fun k hk h1 h2 => h.block k (by omega) (fun e' => by have := (hlt k e'.symm).1; omega), fun k u ds fr hk hu => ?_⟩
 refine (h.block k (lt_of_heap hk) (fun e' => ?_)).trans hk
 rcases hv.2 with ⟨rfl, _⟩ | ⟨g, cap, cur, rfl, _, hg, _⟩
 ·simp [Value.ownBlock] at e'
 ·simp [Value.ownBlock] at e'
  subst e'
  rw [hg] at hk
  simp at hk
  exact hu (hk.2.1 ▸ hc)
theorem Kp.drewN {chg : List TypeId} {B p eb : Nat} {w w' : World} (h : Kp chg B p eb w w') (n : Nat) : Kp chg B p eb w (w'.drewN n) := ⟨h.os, h.tape, h.output, h.size, h.low, h.tag⟩
theorem Kp.drew {chg : List TypeId} {B p eb : Nat} {w w' : World} (h : Kp chg B p eb w w') : Kp chg B p eb w w'.drew := ⟨h.os, h.tape, h.output, h.size, h.low, h.tag⟩
theorem Blk.keep {chg : List TypeId} {B p eb k : Nat} {w w' : World} {t : TypeId} {cs : Array Value} (h : Blk w k t cs) (hk : Kp chg B p eb w w') (ht : t ∉ chg) : Blk w' k t cs := hk.tag k t cs (0, 0) h ht
theorem ownsRow_keep {chg : List TypeId} {B p eb base : Nat} {w w' : World} {e : TypeId} {size n : Nat} {v : Value} {xs : List Value} (h : w.ownsRow base e size v n xs) (hk : Kp chg B p eb w w') (ht : e ∉ chg) : w'.ownsRow base e size v n xs := by
 refine ⟨h.1, ?_⟩
 rcases h.2 with hn | ⟨g, cap, cur, rfl, hb, hg, rest⟩
 ·exact .inl hn
 ·exact .inr ⟨g, cap, cur, rfl, hb, hk.tag _ _ _ _ hg ht, rest⟩
def Far (B p eb : Nat) (a : Option Addr) : Prop := ∀ b off, a = some ⟨b, off, none⟩ → b < B ∧ b ≠ p ∧ b ≠ eb
def FarC (B p eb : Nat) (a : Option Addr) (is : List InsD) : Prop := is ≠ [] → Far B p eb a
theorem cell_low {chg : List TypeId} {B p eb b o : Nat} {w w' : World} (hk : Kp chg B p eb w w') (h : b < B ∧ b ≠ p ∧ b ≠ eb) : w'.cell? ⟨b, o, none⟩ = w.cell? ⟨b, o, none⟩ :=
 World.cell?_of_block (w := w) (hk.low b h.1 h.2.1 h.2.2)
theorem Ints.keep {chg : List TypeId} {B p eb B' : Nat} {w w' : World} {a : Option Addr} {zs : List Int} (h : Ints w B' a zs) (hf : Far B p eb a) (hk : Kp chg B p eb w w') : Ints w' B' a zs := by
 intro i hi
 obtain ⟨b, off, ha, hlt, hc⟩ := h i hi
 exact ⟨b, off, ha, hlt, (cell_low hk (hf b off ha)).trans hc⟩
theorem CodeIn.keep {chg : List TypeId} {B p eb B' : Nat} {w w' : World} {a : Option Addr} {is : List InsD} (h : CodeIn w B' a is) (hf : FarC B p eb a is) (hk : Kp chg B p eb w w') : CodeIn w' B' a is := by
 intro i hi
 obtain ⟨b, off, ha, hlt, h0, h1, h2, h3⟩ := h i hi
 have hl := hf (fun e => by simp [e] at hi) b off ha
 exact ⟨b, off, ha, hlt, (cell_low hk hl).trans h0, (cell_low hk hl).trans h1, (cell_low hk hl).trans h2, (cell_low hk hl).trans h3⟩
theorem JobsIn.keep {chg : List TypeId} {B p eb B' : Nat} {w w' : World} {a : Option Addr} {js : List JobD} (h : JobsIn w B' a js) (hf : js ≠ [] → Far B p eb a) (hk : Kp chg B p eb w w') : JobsIn w' B' a js := by
 intro i hi
 obtain ⟨b, off, ha, hlt, h0, h1⟩ := h i hi
 have hl := hf (fun e => by simp [e] at hi) b off ha
 exact ⟨b, off, ha, hlt, (cell_low hk hl).trans h0, (cell_low hk hl).trans h1⟩
structure Stat (E : Env) (H : Hd) (B p eb : Nat) (w : World) : Prop where
 size : B ≤ w.heap.size
 seen : Ints w B H.sa E.seen
 seenF : Far B p eb H.sa
 draws : Ints w B H.da E.draws
 drawsF : Far B p eb H.da
 whens : Ints w B H.wa E.whens
 whensF : Far B p eb H.wa
 jobs : ∃ js : List JobD, js.length = E.jobs.length ∧ JobsIn w B H.ja js ∧ (∀ i, i < js.length → (jobAt js i).t = (E.jobs.getD i (0, [])).1 ∧ (jobAt js i).len = (E.jobs.getD i (0, [])).2.length ∧
     CodeIn w B (jobAt js i).a (E.jobs.getD i (0, [])).2 ∧ FarC B p eb (jobAt js i).a (E.jobs.getD i (0, [])).2)
 jobsF : E.jobs ≠ [] → Far B p eb H.ja
theorem Stat.keep {chg : List TypeId} {E : Env} {H : Hd} {B p eb : Nat} {w w' : World} (h : Stat E H B p eb w) (hk : Kp chg B p eb w w') : Stat E H B p eb w' := by
 obtain ⟨js, h1, h2, h3⟩ := h.jobs
 exact ⟨Nat.le_trans h.size hk.size, h.seen.keep h.seenF hk, h.seenF, h.draws.keep h.drawsF hk, h.drawsF, h.whens.keep h.whensF hk, h.whensF,
     ⟨js, h1, h2.keep (fun e => h.jobsF (fun e2 => e (List.eq_nil_of_length_eq_zero (by rw [h1, e2]; rfl)))) hk, fun i hi => ⟨(h3 i hi).1, (h3 i hi).2.1, (h3 i hi).2.2.1.keep (h3 i hi).2.2.2 hk, (h3 i hi).2.2.2⟩⟩, h.jobsF⟩
def noteCells (n : NoteD) : List Value := [.int .i64 n.op, .int .i64 n.addr, .int .i64 n.val]
def attCells (a : AttD) (nv : Value) : List Value := [.int .i64 a.thread, .int .i64 a.job, .int .i64 a.start, .int .i64 a.fin, .int .i64 a.valid, .int .i64 a.stamp, .int .i64 a.fate, nv]
def rowCells (L : List AttD) (nvs : List Value) : List Value := (L.zip nvs).flatMap fun q => attCells q.1 q.2
def ListRep (w : World) (B : Nat) (la : Option Addr) (lc : Nat) (L : List AttD) : Prop :=
 ∃ nvs : List Value, nvs.length = L.length ∧ w.ownsRow B 63 8 (.slice la L.length lc) L.length (rowCells L nvs) ∧
  (∀ (i : Nat) (a : AttD) (nv : Value), L[i]? = some a → nvs[i]? = some nv → w.ownsRow B 95 3 nv a.notes.length (a.notes.flatMap noteCells)) ∧
  (∀ (i j : Nat) (u v : Value) (k : Nat), nvs[i]? = some u → nvs[j]? = some v → u.ownBlock = some k → v.ownBlock = some k → i = j)
theorem ListRep.keep {chg : List TypeId} {B p eb : Nat} {w w' : World} {la : Option Addr} {lc : Nat} {L : List AttD} (h : ListRep w B la lc L) (hk : Kp chg B p eb w w') (h1 : 63 ∉ chg) (h2 : 95 ∉ chg) : ListRep w' B la lc L := by
 obtain ⟨nvs, hl, ho, hn, hd⟩ := h
 exact ⟨nvs, hl, ownsRow_keep ho hk h1, fun i a nv hi hj => ownsRow_keep (hn i a nv hi hj) hk h2, hd⟩
def resCells (r : ResD) : List Value := [.int .i64 r.fate, .int .i64 r.r0, .int .i64 r.r1, .int .i64 r.r2, .int .i64 r.r3]
structure LifeR (E : Env) (H : Hd) (B p eb : Nat) (w : World) (s : LS) : Prop where
 stat : Stat E H B p eb w
 life : ∃ la lc, Blk w p 88 (lifeArr E H la lc s) ∧ ListRep w B la lc s.list
 ends : s.ends = [] ∨ (H.ea = some ⟨eb, 0, none⟩ ∧ Blk w eb 84 (s.ends.flatMap resCells).toArray)
 pB : p < B
 eB : eb < B
 pe : p ≠ eb
theorem LifeR.keep {chg : List TypeId} {E : Env} {H : Hd} {B p eb : Nat} {w w' : World} {s : LS} (h : LifeR E H B p eb w s) (hk : Kp chg B p eb w w') (h0 : 88 ∉ chg) (h1 : 63 ∉ chg) (h2 : 95 ∉ chg) (h3 : 84 ∉ chg) : LifeR E H B p eb w' s := by
 obtain ⟨la, lc, hb, hl⟩ := h.life
 exact ⟨h.stat.keep hk, ⟨la, lc, hb.keep hk h0, hl.keep hk h1 h2⟩, h.ends.imp id (fun ⟨a, b⟩ => ⟨a, b.keep hk h3⟩), h.pB, h.eB, h.pe⟩
def entCells (e : EntD) : List Value := [.int .i64 e.what, .int .i64 e.val]
def tryArr (ca : Option Addr) (cc : Nat) (ra : Option Addr) (rc : Nat) (wa : Option Addr) (wc : Nat) (ha : Option Addr) (hc : Nat) (x : TS) : Array Value :=
 #[.slice ca x.code.length cc, .int .i64 (x.regs.getD 0 0), .int .i64 (x.regs.getD 1 0), .int .i64 (x.regs.getD 2 0), .int .i64 (x.regs.getD 3 0), .int .i64 x.place, .int .i64 x.begun, .int .i64 x.valid,
     .slice ra x.reads.length rc, .slice wa x.writes.length wc, .slice ha x.held.length hc, .bool x.inGate, .int .i64 x.way]
structure TryR (B p eb xb : Nat) (w : World) (x : TS) : Prop where
 blk : ∃ ca cc ra rc wa wc ha hc, Blk w xb 145 (tryArr ca cc ra rc wa wc ha hc x) ∧ CodeIn w B ca x.code ∧ FarC B p eb ca x.code ∧
  w.ownsRow B 160 2 (.slice ra x.reads.length rc) x.reads.length (x.reads.flatMap entCells) ∧ w.ownsRow B 160 2 (.slice wa x.writes.length wc) x.writes.length (x.writes.flatMap entCells) ∧
  w.ownsRow B 3 1 (.slice ha x.held.length hc) x.held.length (x.held.map (.int .i64 ·)) ∧ (∀ k, (Value.slice ra x.reads.length rc).ownBlock = some k → (Value.slice wa x.writes.length wc).ownBlock ≠ some k)
 xB : B ≤ xb
 regs : x.regs.length = 4
theorem TryR.keep {chg : List TypeId} {B p eb xb : Nat} {w w' : World} {x : TS} (h : TryR B p eb xb w x) (hk : Kp chg B p eb w w') (h0 : 145 ∉ chg) (h1 : 160 ∉ chg) (h2 : 3 ∉ chg) : TryR B p eb xb w' x := by
 obtain ⟨ca, cc, ra, rc, wa, wc, ha, hc, hb, hcd, hcf, h3, h4, h5, h6⟩ := h.blk
 exact ⟨⟨ca, cc, ra, rc, wa, wc, ha, hc, hb.keep hk h0, hcd.keep hcf hk, hcf, ownsRow_keep h3 hk h1, ownsRow_keep h4 hk h1, ownsRow_keep h5 hk h2, h6⟩, h.xB, h.regs⟩
structure EnvOk (E : Env) : Prop where
 cfg : cfgB E.c = true
 me0 : 0 ≤ E.me
 me3 : E.me ≤ 3
 len : E.seen.length ≤ 2 ^ 45
 dlen : E.draws.length = E.seen.length
 wlen : E.whens.length = E.seen.length
 vals : ∀ v ∈ E.seen, -1 ≤ v ∧ v ≤ 1125899906842624
 jobs : E.jobs.length ≤ 8
 codes : ∀ j ∈ E.jobs, j.2.length ≤ 20
theorem mAsk_list (E : Env) (s : LS) (q : AskD) : (mAsk E s q).2.list = s.list := by unfold mAsk; (repeat' split) <;> rfl
theorem mAsk_ends (E : Env) (s : LS) (q : AskD) : (mAsk E s q).2.ends = s.ends := by unfold mAsk; (repeat' split) <;> rfl
theorem mAsk_rank (E : Env) (s : LS) (q : AskD) : (mAsk E s q).2.rank = s.rank := by unfold mAsk; (repeat' split) <;> rfl
theorem mAsk_fails (E : Env) (s : LS) (q : AskD) : (mAsk E s q).2.fails = s.fails := by unfold mAsk; (repeat' split) <;> rfl
theorem mAsk_pos (E : Env) (s : LS) (q : AskD) (h : s.pos ≤ E.seen.length) : s.pos ≤ (mAsk E s q).2.pos ∧ (mAsk E s q).2.pos ≤ E.seen.length := by
 unfold mAsk; split
 ·exact ⟨Nat.le_refl _, h⟩
 ·split
  ·exact ⟨Nat.le_refl _, h⟩
  ·exact ⟨Nat.le_succ _, by show s.pos + 1 ≤ _; omega⟩
theorem mAsk_val (E : Env) (hE : EnvOk E) (s : LS) (q : AskD) : -1 ≤ (mAsk E s q).1 ∧ (mAsk E s q).1 ≤ 1125899906842624 := by
 unfold mAsk; split
 ·exact ⟨by show (-1 : Int) ≤ 0; omega, by show (0 : Int) ≤ _; omega⟩
 ·split
  ·exact ⟨by show (-1 : Int) ≤ 0; omega, by show (0 : Int) ≤ _; omega⟩
  ·rename_i h1 h2
   refine hE.vals _ ?_
   have hlt : s.pos < E.seen.length := by omega
   show E.seen.getD s.pos 0 ∈ E.seen
   rw [show E.seen.getD s.pos 0 = E.seen[s.pos] from by simp [List.getD, List.getElem?_eq_getElem hlt]]
   exact List.getElem_mem hlt
theorem askL (E : Env) (hE : EnvOk E) (H : Hd) (B p eb : Nat) (s : LS) (k c f t : Int) (w : World) (hL : LifeR E H B p eb w s) (hpos : s.pos ≤ E.seen.length) :
  Calls Tryz.prog 78 #[.pointer (some ⟨p, 0, none⟩), .int .i64 k, .int .i64 c, .int .i64 f, .int .i64 t] w fun e w' =>
   e = .returned (.int .i64 (mAsk E s ⟨k, c, f, t⟩).1) ∧ LifeR E H B p eb w' (mAsk E s ⟨k, c, f, t⟩).2 ∧ Kp [88] B p eb w w' := by
 obtain ⟨la, lc, hb, hl⟩ := hL.life
 refine (ask_any E H la lc s p k c f t w hb (hL.stat.seen.mono hL.stat.size) hpos hE.len).mono ?_
 rintro e w' ⟨he, hb', ho⟩
 have hk : Kp [88] B p eb w w' := Kp.only ho hL.stat.size hb (by simp) (Or.inl rfl)
 refine ⟨he, ⟨hL.stat.keep hk, ⟨la, lc, hb', ?_⟩, ?_, hL.pB, hL.eB, hL.pe⟩, hk⟩
 ·rw [mAsk_list]; exact hl.keep hk (by simp) (by simp)
 ·rw [mAsk_ends]; exact hL.ends.imp id (fun ⟨a, b⟩ => ⟨a, b.keep hk (by simp)⟩)
set_option maxHeartbeats 400000 in
theorem loadL (E : Env) (hE : EnvOk E) (H : Hd) (B p eb : Nat) (s : LS) (c : Int) (w : World) (hL : LifeR E H B p eb w s) (hpos : s.pos ≤ E.seen.length) :
  Calls Tryz.prog 82 #[.pointer (some ⟨p, 0, none⟩), .int .i64 c] w fun e w' =>
   e = .returned (.int .i64 (mLoad E s c).1) ∧ LifeR E H B p eb w' (mLoad E s c).2 ∧ Kp [88] B p eb w w' := by
 go_enter Tryz.func82, Tryz.ntmps82
 go_wp2_with fail
 refine (askL E hE H B p eb s _ _ _ _ _ hL hpos).mono ?_
 rintro e w1 ⟨rfl, h1, h2⟩
 go_wp2_with fail
 go_ret
 exact ⟨rfl, h1, h2⟩
set_option maxHeartbeats 400000 in
theorem storeL (E : Env) (hE : EnvOk E) (H : Hd) (B p eb : Nat) (s : LS) (c t : Int) (w : World) (hL : LifeR E H B p eb w s) (hpos : s.pos ≤ E.seen.length) :
  Calls Tryz.prog 87 #[.pointer (some ⟨p, 0, none⟩), .int .i64 c, .int .i64 t] w fun e w' =>
   e = .returned (.int .i64 (mStore E s c t).1) ∧ LifeR E H B p eb w' (mStore E s c t).2 ∧ Kp [88] B p eb w w' := by
 go_enter Tryz.func87, Tryz.ntmps87
 go_wp2_with fail
 refine (askL E hE H B p eb s _ _ _ _ _ hL hpos).mono ?_
 rintro e w1 ⟨rfl, h1, h2⟩
 go_wp2_with fail
 go_ret
 exact ⟨rfl, h1, h2⟩
set_option maxHeartbeats 400000 in
theorem statusV (t wd s g r cp f n : Int) (a b : Option Addr) (l c m d : Nat) (w : World) (h1 : 1 ≤ s) (h2 : s ≤ 8) (h3 : -10 ≤ n) (h4 : n ≤ 1125899906842634) :
  Calls Tryz.prog 88 #[.agg #[.int .i64 t, .int .i64 wd, .int .i64 s, .int .i64 g, .int .i64 r, .int .i64 cp, .int .i64 f, .slice a l c, .slice b m d], .int .i64 n] w fun e w' =>
   e = .returned (.int .i64 (3 + 2 * s + n)) ∧ Below w.heap.size w w' := by
 go_enter Tryz.func88, Tryz.ntmps88
 go_wp2
 go_ret
 exact ⟨by simp, (Below.refl _ _).alloc (Nat.le_refl _) _⟩
set_option maxHeartbeats 400000 in
theorem versionV (t wd s g r cp f n : Int) (a b : Option Addr) (l c m d : Nat) (w : World) (h3 : -10 ≤ n) (h4 : n ≤ 1125899906842634) :
  Calls Tryz.prog 99 #[.agg #[.int .i64 t, .int .i64 wd, .int .i64 s, .int .i64 g, .int .i64 r, .int .i64 cp, .int .i64 f, .slice a l c, .slice b m d], .int .i64 n] w fun e w' =>
   e = .returned (.int .i64 (3 + n)) ∧ Below w.heap.size w w' := by
 go_enter Tryz.func99, Tryz.ntmps99
 go_wp2
 go_ret
 first
 | exact ⟨by simp, (Below.refl _ _).alloc (Nat.le_refl _) _⟩
 | exact ⟨by simp, Below.refl _ _⟩
set_option maxHeartbeats 400000 in
theorem ownerV (t wd s g r cp f n : Int) (a b : Option Addr) (l c m d : Nat) (w : World) (h1 : 1 ≤ s) (h2 : s ≤ 8) (h3 : -10 ≤ n) (h4 : n ≤ 1125899906842634) :
  Calls Tryz.prog 100 #[.agg #[.int .i64 t, .int .i64 wd, .int .i64 s, .int .i64 g, .int .i64 r, .int .i64 cp, .int .i64 f, .slice a l c, .slice b m d], .int .i64 n] w fun e w' =>
   e = .returned (.int .i64 (3 + s + n)) ∧ Below w.heap.size w w' := by
 go_enter Tryz.func100, Tryz.ntmps100
 go_wp2
 go_ret
 exact ⟨by simp, (Below.refl _ _).alloc (Nat.le_refl _) _⟩
set_option maxHeartbeats 400000 in
theorem wordV (t wd s g r cp f n : Int) (a b : Option Addr) (l c m d : Nat) (w : World) (h1 : 1 ≤ s) (h2 : s ≤ 8) (h5 : 1 ≤ t) (h6 : t ≤ 4) (h3 : -70000 ≤ n) (h4 : n ≤ 1125899906842634) :
  Calls Tryz.prog 72 #[.agg #[.int .i64 t, .int .i64 wd, .int .i64 s, .int .i64 g, .int .i64 r, .int .i64 cp, .int .i64 f, .slice a l c, .slice b m d], .int .i64 n] w fun e w' =>
   e = .returned (.int .i64 (3 + 2 * s + t + n)) ∧ Below w.heap.size w w' := by
 go_enter Tryz.func72, Tryz.ntmps72
 go_wp2
 go_ret
 exact ⟨by simp, (Below.refl _ _).alloc (Nat.le_refl _) _⟩
theorem flat_at {α : Type} {f : α → List Value} {n : Nat} (hf : ∀ a, (f a).length = n) : ∀ (l : List α) (i j : Nat), j < n → (l.flatMap f)[i * n + j]? = (l[i]?).bind fun a => (f a)[j]?
 | [], i, j, hj => by simp
 | a :: l, 0, j, hj => by
  rw [List.flatMap_cons, Nat.zero_mul, Nat.zero_add, List.getElem?_append_left (by rw [hf]; exact hj)]
  simp
 | a :: l, i + 1, j, hj => by
  rw [List.flatMap_cons, List.getElem?_append_right (by rw [hf, Nat.add_mul]; omega), hf, show (i + 1) * n + j - n = i * n + j from by rw [Nat.add_mul]; omega, flat_at hf l i j hj]
  simp
theorem flat_len {α : Type} {f : α → List Value} {n : Nat} (hf : ∀ a, (f a).length = n) : ∀ (l : List α), (l.flatMap f).length = l.length * n
 | [] => by simp
 | a :: l => by rw [List.flatMap_cons, List.length_append, hf, flat_len hf l, List.length_cons, Nat.add_mul]; omega
def EntsIn (w : World) (a : Option Addr) (es : List EntD) : Prop :=
 ∀ i, i < es.length → ∃ b, a = some ⟨b, 0, none⟩ ∧ w.cell? ⟨b, i * 2, none⟩ = some (.int .i64 (es.getD i ⟨0, 0⟩).what) ∧ w.cell? ⟨b, i * 2 + 1, none⟩ = some (.int .i64 (es.getD i ⟨0, 0⟩).val) ∧
  w.frozen? ⟨b, i * 2 + 1, none⟩ = false
theorem own_block {w : World} {base : Nat} {e : TypeId} {size n : Nat} {v : Value} {xs : List Value} (h : w.ownsRow base e size v n xs) (hn : 0 < n) :
  ∃ g cap cur, v = .slice (some ⟨g, 0, none⟩) n cap ∧ base ≤ g ∧ Blk w g e cur ∧ n ≤ cap ∧ cap ≤ maxLen ∧ cur.size = cap * size ∧ cur.toList.take (n * size) = xs := by
 rcases h.2 with ⟨_, h0⟩ | ⟨g, cap, cur, hv, hb, hg, r⟩
 ·omega
 ·exact ⟨g, cap, cur, hv, hb, hg, r⟩
theorem ents_of {w : World} {base : Nat} {a : Option Addr} {c : Nat} {es : List EntD} (h : w.ownsRow base 160 2 (.slice a es.length c) es.length (es.flatMap entCells)) : EntsIn w a es := by
 intro i hi
 obtain ⟨g, cap, cur, hv, hb, hg, h1, h2, h3, h4⟩ := own_block h (by omega)
 simp at hv
 obtain ⟨rfl, rfl⟩ := hv
 have hat : ∀ j, j < 2 → w.cell? ⟨g, i * 2 + j, none⟩ = (entCells (es.getD i ⟨0, 0⟩))[j]? := by
  intro j hj
  rw [hg.cell]
  have e1 : (es.flatMap entCells)[i * 2 + j]? = (entCells (es.getD i ⟨0, 0⟩))[j]? := by
   rw [flat_at (n := 2) (fun _ => rfl) es i j hj]
   simp [List.getElem?_eq_getElem hi]
  rw [← e1, ← h4, List.getElem?_take, if_pos (by omega), Array.getElem?_toList]
 refine ⟨g, rfl, ?_, ?_, hg.frozen _⟩
 ·have := hat 0 (by omega); simpa [entCells] using this
 ·have := hat 1 (by omega); simpa [entCells] using this
theorem entIdx_none {es : List EntD} {what : Int} (h : ∀ j, j < es.length → ((es.getD j ⟨0, 0⟩).what == what) = false) : entIdx es what = none := by
 unfold entIdx
 rw [List.findIdx?_eq_none_iff]
 intro x hx
 obtain ⟨j, hj, rfl⟩ := List.mem_iff_getElem.1 hx
 simpa [List.getD, List.getElem?_eq_getElem hj] using h j hj
theorem entIdx_some {es : List EntD} {what : Int} {k : Nat} (hk : k < es.length) (h : ∀ j, j < k → ((es.getD j ⟨0, 0⟩).what == what) = false) (h1 : ((es.getD k ⟨0, 0⟩).what == what) = true) : entIdx es what = some k := by
 unfold entIdx
 rw [List.findIdx?_eq_some_iff_getElem]
 refine ⟨hk, by simpa [List.getD, List.getElem?_eq_getElem hk] using h1, fun j hj => ?_⟩
 have := h j hj
 simpa [List.getD, List.getElem?_eq_getElem (show j < es.length by omega)] using this
set_option maxHeartbeats 1000000 in
theorem find_any (a : Option Addr) (len cap : Nat) (es : List EntD) (what : Int) (w : World) (hl : es.length = len) (hm : len ≤ 2 ^ 45) (h : EntsIn w a es) :
  Calls Tryz.prog 120 #[.slice a len cap, .int .i64 what] w fun e w' => e = .returned (.int .i64 (idxN (entIdx es what))) ∧ w' = w := by
 subst hl
 have HI : Hid (EntsIn w a es) := h
 clear h
 go_enter Tryz.func120, Tryz.ntmps120
 go_wp2
 go_loop [5] (fun i => ∃ k : Nat, k ≤ es.length ∧ i = .int .i64 k ∧ Hid (∀ j, j < k → ((es.getD j ⟨0, 0⟩).what == what) = false)) (fun i => es.length - (intOf i).toNat)
 case atStart => exact ⟨0, Nat.zero_le _, rfl, fun j hj => absurd hj (by omega)⟩
 case round =>
  obtain ⟨k, hk, rfl, HA⟩ := hrel
  by_cases hlt : k < es.length
  ·obtain ⟨b, rfl, hc1, hc2, _⟩ := HI.out k hlt
   obtain ⟨z, hz⟩ : ∃ z, z = (es.getD k ⟨0, 0⟩).what := ⟨_, rfl⟩
   rw [← hz] at hc1
   have HZ : Hid (z = (es.getD k ⟨0, 0⟩).what) := hz
   clear hz hc2
   cases hin : (z == what) with
   | false =>
    have H1 : Hid (∀ j, j < k + 1 → ((es.getD j ⟨0, 0⟩).what == what) = false) := fun j hj => by
     rcases Nat.lt_succ_iff_lt_or_eq.1 hj with h | rfl
     ·exact HA.out j h
     ·rw [← HZ.out]; exact hin
    clear HA
    go_wp2
    go_round
    case rel => exact ⟨k + 1, by omega, by go_num, H1⟩
    case measure => simp [intOf]; omega
   | true =>
    have HF : Hid (entIdx es what = some k) := entIdx_some hlt HA.out (by rw [← HZ.out]; exact hin)
    go_wp2
    go_ret
    exact ⟨by rw [HF.out]; rfl, rfl⟩
  ·have HF : Hid (entIdx es what = none) := entIdx_none (fun j hj => HA.out j (by omega))
   go_wp2
   go_ret
   exact ⟨by rw [HF.out]; rfl, rfl⟩
def NumsIn (w : World) (a : Option Addr) (zs : List Int) : Prop := ∀ i, i < zs.length → ∃ b, a = some ⟨b, 0, none⟩ ∧ w.cell? ⟨b, i, none⟩ = some (.int .i64 (zs.getD i 0))
theorem nums_of {w : World} {base : Nat} {a : Option Addr} {c : Nat} {zs : List Int} (h : w.ownsRow base 3 1 (.slice a zs.length c) zs.length (zs.map (.int .i64 ·))) : NumsIn w a zs := by
 intro i hi
 obtain ⟨g, cap, cur, hv, hb, hg, h1, h2, h3, h4⟩ := own_block h (by omega)
 simp at hv
 obtain ⟨rfl, rfl⟩ := hv
 refine ⟨g, rfl, ?_⟩
 rw [hg.cell]
 have e1 : (zs.map (Value.int .i64 ·))[i]? = some (.int .i64 (zs.getD i 0)) := by simp [List.getElem?_eq_getElem hi]
 rw [← e1, ← h4, List.getElem?_take, if_pos (by omega), Array.getElem?_toList]
set_option maxHeartbeats 1000000 in
theorem holds_any (B p eb xb : Nat) (x : TS) (st : Int) (w : World) (hT : TryR B p eb xb w x) (hm : x.held.length ≤ 2 ^ 45) :
  Calls Tryz.prog 121 #[.pointer (some ⟨xb, 0, none⟩), .int .i64 st] w fun e w' => e = .returned (.bool (heldB x st)) ∧ w' = w := by
 obtain ⟨ca, cc, ra, rc, wa, wc, ha, hc, hb, hcd, hcf, h3, h4, h5, h6⟩ := hT.blk
 have hcl := hb.cell
 have HI : Hid (NumsIn w ha x.held) := nums_of h5
 clear hb hcd hcf h3 h4 h5 h6 hT
 unfold tryArr at hcl
 go_enter Tryz.func121, Tryz.ntmps121
 go_wp2
 go_loop [5] (fun i => ∃ k : Nat, k ≤ x.held.length ∧ i = .int .i64 k ∧ Hid (∀ j, j < k → (x.held.getD j 0 == st) = false)) (fun i => x.held.length - (intOf i).toNat)
 case atStart => exact ⟨0, Nat.zero_le _, rfl, fun j hj => absurd hj (by omega)⟩
 case round =>
  obtain ⟨k, hk, rfl, HA⟩ := hrel
  by_cases hlt : k < x.held.length
  ·obtain ⟨b, rfl, hc1⟩ := HI.out k hlt
   obtain ⟨z, hz⟩ : ∃ z, z = x.held.getD k 0 := ⟨_, rfl⟩
   rw [← hz] at hc1
   have HZ : Hid (z = x.held.getD k 0) := hz
   clear hz
   cases hin : (z == st) with
   | false =>
    have H1 : Hid (∀ j, j < k + 1 → (x.held.getD j 0 == st) = false) := fun j hj => by
     rcases Nat.lt_succ_iff_lt_or_eq.1 hj with h | rfl
     ·exact HA.out j h
     ·rw [← HZ.out]; exact hin
    clear HA
    go_wp2
    go_round
    case rel => exact ⟨k + 1, by omega, by go_num, H1⟩
    case measure => simp [intOf]; omega
   | true =>
    have HF : Hid (heldB x st = true) := by
     show heldB x st = true
     unfold heldB
     rw [List.any_eq_true]
     exact ⟨x.held[k], List.getElem_mem hlt, by have := HZ.out; rw [this] at hin; simpa [List.getD, List.getElem?_eq_getElem hlt] using hin⟩
    go_wp2
    go_ret
    exact ⟨by rw [HF.out]; rfl, rfl⟩
  ·have HF : Hid (heldB x st = false) := by
    show heldB x st = false
    unfold heldB
    rw [List.any_eq_false]
    intro y hy
    obtain ⟨j, hj, rfl⟩ := List.mem_iff_getElem.1 hy
    have := HA.out j (by omega)
    simpa [List.getD, List.getElem?_eq_getElem hj] using this
   go_wp2
   go_ret
   exact ⟨by rw [HF.out]; rfl, rfl⟩
end Go.Proofs.YtejadojilncbjaaGreat
namespace Go.Proofs.YtejadojilncbjaaGreat
open Go.RowKit
set_option linter.unusedVariables false
attribute [local go_sem ↓] Go.wp_at_zero Go.wp_at_succ
abbrev HeadAt (E : Env) (H : Hd) (p : Nat) (w : World) : Prop :=
 ∀ i, i < 10 → w.cell? ⟨p, i, none⟩ = (#[.int .i64 E.c.t, .int .i64 E.c.wd, .int .i64 E.c.s, .int .i64 E.c.g, .int .i64 E.c.r, .int .i64 E.c.cp, .int .i64 E.c.f, .slice H.ma H.ml H.mc, .slice H.ja E.jobs.length H.jc, .int .i64 E.me] : Array Value)[i]?
theorem lt10 {i : Nat} (h : i < 10) : i = 0 ∨ i = 1 ∨ i = 2 ∨ i = 3 ∨ i = 4 ∨ i = 5 ∨ i = 6 ∨ i = 7 ∨ i = 8 ∨ i = 9 := by omega
theorem LifeR.head {E : Env} {H : Hd} {B p eb : Nat} {w : World} {s : LS} (h : LifeR E H B p eb w s) : HeadAt E H p w := by
 obtain ⟨la, lc, hb, _⟩ := h.life
 intro i hi
 rw [hb.cell]
 rcases lt10 hi with rfl | rfl | rfl | rfl | rfl | rfl | rfl | rfl | rfl | rfl <;> rfl
theorem LifeR.below {E : Env} {H : Hd} {B p eb : Nat} {w w' : World} {s : LS} (h : LifeR E H B p eb w s) (hb : Below w.heap.size w w') : LifeR E H B p eb w' s :=
 h.keep (chg := []) (Kp.below hb h.stat.size) (by simp) (by simp) (by simp) (by simp)
theorem TryR.below {B p eb xb : Nat} {w w' : World} {x : TS} (h : TryR B p eb xb w x) (hb : Below w.heap.size w w') (hB : B ≤ w.heap.size) : TryR B p eb xb w' x :=
 h.keep (chg := []) (p := p) (eb := eb) (Kp.below hb hB) (by simp) (by simp) (by simp)
theorem LifeR.drewN {E : Env} {H : Hd} {B p eb : Nat} {w : World} {s : LS} (h : LifeR E H B p eb w s) (n : Nat) : LifeR E H B p eb (w.drewN n) s := h.below (below_drewN (Below.refl _ _) n)
theorem LifeR.drew {E : Env} {H : Hd} {B p eb : Nat} {w : World} {s : LS} (h : LifeR E H B p eb w s) : LifeR E H B p eb w.drew s := h.below (Below.refl _ _).drew
theorem TryR.drewN {B p eb xb : Nat} {w : World} {x : TS} (h : TryR B p eb xb w x) (n : Nat) : TryR B p eb xb (w.drewN n) x := by
 obtain ⟨ca, cc, ra, rc, wa, wc, ha, hc, h1⟩ := h.blk
 exact ⟨⟨ca, cc, ra, rc, wa, wc, ha, hc, h1⟩, h.xB, h.regs⟩
theorem TryR.drew {B p eb xb : Nat} {w : World} {x : TS} (h : TryR B p eb xb w x) : TryR B p eb xb w.drew x := by
 obtain ⟨ca, cc, ra, rc, wa, wc, ha, hc, h1⟩ := h.blk
 exact ⟨⟨ca, cc, ra, rc, wa, wc, ha, hc, h1⟩, h.xB, h.regs⟩
theorem TryR.held {B p eb xb : Nat} {w : World} {x : TS} (h : TryR B p eb xb w x) : ∃ ha hc, w.cell? ⟨xb, 10, none⟩ = some (.slice ha x.held.length hc) ∧ NumsIn w ha x.held := by
 obtain ⟨ca, cc, ra, rc, wa, wc, ha, hc, hb, hcd, hcf, h3, h4, h5, h6⟩ := h.blk
 exact ⟨ha, hc, by rw [hb.cell]; rfl, nums_of h5⟩
theorem cell_tag {chg : List TypeId} {B p eb k i : Nat} {w w' : World} {t : TypeId} {cs : Array Value} (h : Blk w k t cs) (hk : Kp chg B p eb w w') (ht : t ∉ chg) : w'.cell? ⟨k, i, none⟩ = w.cell? ⟨k, i, none⟩ := by
 rw [h.cell, (h.keep hk ht).cell]
theorem TryR.heldKeep {chg : List TypeId} {B p eb xb b hc : Nat} {w w' : World} {x : TS} (h : TryR B p eb xb w x) (hk : Kp chg B p eb w w') (h0 : 145 ∉ chg) (h2 : 3 ∉ chg)
  (hh : w.cell? ⟨xb, 10, none⟩ = some (.slice (some ⟨b, 0, none⟩) x.held.length hc)) (hn : 0 < x.held.length) :
  w'.cell? ⟨xb, 10, none⟩ = some (.slice (some ⟨b, 0, none⟩) x.held.length hc) ∧ ∀ i, w'.cell? ⟨b, i, none⟩ = w.cell? ⟨b, i, none⟩ := by
 obtain ⟨ca, cc, ra, rc, wa, wc, ha, hc', hb, hcd, hcf, h3, h4, h5, h6⟩ := h.blk
 refine ⟨by rw [cell_tag hb hk h0]; exact hh, fun i => ?_⟩
 rw [hb.cell] at hh
 obtain ⟨g, cap, cur, hv, _, hg, _⟩ := own_block h5 hn
 simp [tryArr] at hh
 simp at hv
 obtain ⟨rfl, _⟩ := hv
 simp at hh
 obtain ⟨rfl, _⟩ := hh
 exact cell_tag hg hk h2
def freeStep (E : Env) (s : LS) (h : Int) : LS := (mStore E s (cOwner E h) 0).2
theorem take_foldl {α β : Type} (f : β → α → β) (b : β) (l : List α) (k : Nat) (d : α) (h : k < l.length) : (l.take (k + 1)).foldl f b = f ((l.take k).foldl f b) (l.getD k d) := by
 rw [List.take_succ_eq_append_getElem h, List.foldl_append]
 simp [List.getD, List.getElem?_eq_getElem h]
theorem foldl_pos {α : Type} (E : Env) (f : LS → α → LS) (hf : ∀ s a, s.pos ≤ E.seen.length → s.pos ≤ (f s a).pos ∧ (f s a).pos ≤ E.seen.length) : ∀ (l : List α) (s : LS), s.pos ≤ E.seen.length → s.pos ≤ (l.foldl f s).pos ∧ (l.foldl f s).pos ≤ E.seen.length
 | [], s, h => ⟨Nat.le_refl _, h⟩
 | a :: l, s, h => by
  have h1 := hf s a h
  have h2 := foldl_pos E f hf l (f s a) h1.2
  exact ⟨Nat.le_trans h1.1 h2.1, h2.2⟩
theorem freeStep_pos (E : Env) (s : LS) (h : Int) (hp : s.pos ≤ E.seen.length) : s.pos ≤ (freeStep E s h).pos ∧ (freeStep E s h).pos ≤ E.seen.length := mAsk_pos E s _ hp
set_option maxHeartbeats 2000000 in
theorem free_any (E : Env) (hE : EnvOk E) (H : Hd) (B p eb xb : Nat) (s : LS) (x : TS) (w : World) (hL : LifeR E H B p eb w s) (hT : TryR B p eb xb w x) (hpos : s.pos ≤ E.seen.length)
  (hm : x.held.length ≤ 2 ^ 45) (hst : ∀ h ∈ x.held, -8 ≤ h ∧ h ≤ 8) :
  Calls Tryz.prog 85 #[.pointer (some ⟨p, 0, none⟩), .pointer (some ⟨xb, 0, none⟩)] w fun e w' =>
   e = .returned (.tuple #[]) ∧ LifeR E H B p eb w' (mFree E x s) ∧ TryR B p eb xb w' x ∧ Kp [88] B p eb w w' := by
 have HL : Hid (LifeR E H B p eb w s) := hL
 have HT : Hid (TryR B p eb xb w x) := hT
 obtain ⟨_, _, hs0, _⟩ := cfgB_true hE.cfg
 obtain ⟨hs1, hs2⟩ := hs0
 have HE : Hid (EnvOk E) := hE
 obtain ⟨ha, hc, hh, _⟩ := hT.held
 clear hL hT hE
 go_enter Tryz.func85, Tryz.ntmps85
 go_wp2
 go_loopw [4] (fun i wr => ∃ k : Nat, k ≤ x.held.length ∧ i = .int .i64 k ∧ LifeR E H B p eb wr ((x.held.take k).foldl (freeStep E) s) ∧ TryR B p eb xb wr x ∧ Kp [88] B p eb w wr) (fun i wr => x.held.length - (intOf i).toNat)
 case atStart => exact ⟨0, Nat.zero_le _, rfl, HL.out, HT.out, Kp.refl _ _ _ _ _⟩
 case round =>
  obtain ⟨k, hk, rfl, hL1, hT1, hK1⟩ := hrel
  have HL1 : Hid (LifeR E H B p eb wr ((x.held.take k).foldl (freeStep E) s)) := hL1
  have HT1 : Hid (TryR B p eb xb wr x) := hT1
  have HK1 : Hid (Kp [88] B p eb w wr) := hK1
  obtain ⟨ha1, hc1, hh1, hn1⟩ := hT1.held
  have hhd := hL1.head
  clear hL1 hT1 hK1
  by_cases hlt : k < x.held.length
  ·obtain ⟨b, rfl, hcc⟩ := hn1 k hlt
   obtain ⟨z, hz⟩ : ∃ z, z = x.held.getD k 0 := ⟨_, rfl⟩
   have hzm : z ∈ x.held := by rw [hz]; simp [List.getD, List.getElem?_eq_getElem hlt]
   obtain ⟨hz1, hz2⟩ := hst z hzm
   rw [← hz] at hcc
   have HZ : Hid (z = x.held.getD k 0) := hz
   clear hz hzm hn1 hst
   have HPk : Hid (((x.held.take k).foldl (freeStep E) s).pos ≤ E.seen.length) := (foldl_pos E _ (freeStep_pos E) _ s hpos).2
   have HS0 : Hid (HeadAt E H p wr.drew ∧ wr.drew.cell? ⟨xb, 10, none⟩ = some (.slice (some ⟨b, 0, none⟩) x.held.length hc1) ∧ wr.drew.cell? ⟨b, k, none⟩ = some (.int .i64 z)) := ⟨(HL1.out).drew.head, hh1, hcc⟩
   go_wp2_with fail
   go_region_held3 (fun w' => HeadAt E H p w' ∧ w'.cell? ⟨xb, 10, none⟩ = some (.slice (some ⟨b, 0, none⟩) x.held.length hc1) ∧ w'.cell? ⟨b, k, none⟩ = some (.int .i64 z))
    (first | exact HS2.out | exact HS1.out | exact HS0.out)
    (first
        | (go_at_call 100; refine (ownerV _ _ _ _ _ _ _ _ _ _ _ _ _ _ _ hs1 hs2 (by omega) (by omega)).mono ?_; rintro e w1 ⟨rfl, hb1⟩; have HB1 : Hid (Below wr.heap.size wr w1) := (Below.refl _ _).drew.trans hb1; clear hb1;
           have HS1 : Hid (HeadAt E H p w1 ∧ w1.cell? ⟨xb, 10, none⟩ = some (.slice (some ⟨b, 0, none⟩) x.held.length hc1) ∧ w1.cell? ⟨b, k, none⟩ = some (.int .i64 z)) := ⟨((HL1.out).below HB1.out).head, ((HB1.out).cell (block_lt hh1)).trans hh1, ((HB1.out).cell (block_lt hcc)).trans hcc⟩)
        | (go_at_call 87; refine (storeL E HE.out H B p eb _ _ _ _ ((HL1.out).below HB1.out) HPk.out).mono ?_; rintro e w2 ⟨rfl, hL2, hK2⟩; have HL2 : Hid (LifeR E H B p eb w2 _) := hL2; have HK2 : Hid (Kp [88] B p eb w1 w2) := hK2; clear hL2 hK2;
           have HT2 : Hid (TryR B p eb xb w2 x) := ((HT1.out).below HB1.out HL1.out.stat.size).keep HK2.out (by simp) (by simp) (by simp);
           have HS2 : Hid (HeadAt E H p w2 ∧ w2.cell? ⟨xb, 10, none⟩ = some (.slice (some ⟨b, 0, none⟩) x.held.length hc1) ∧ w2.cell? ⟨b, k, none⟩ = some (.int .i64 z)) := ⟨(HL2.out).head, (((HT1.out).heldKeep ((Kp.below HB1.out HL1.out.stat.size).trans HK2.out) (by simp) (by simp) hh1 (by omega)).1), by rw [(((HT1.out).heldKeep ((Kp.below HB1.out HL1.out.stat.size).trans HK2.out) (by simp) (by simp) hh1 (by omega)).2 k)]; exact hcc⟩))
   go_wp2
   go_roundw
   case rel => exact ⟨k + 1, by omega, by go_num, by rw [take_foldl _ _ _ _ 0 hlt, ← HZ.out]; exact HL2.out, HT2.out, HK1.out.trans ((Kp.below HB1.out HL1.out.stat.size).trans HK2.out)⟩
   case measure => simp [intOf]; omega
  ·have HF : Hid ((x.held.take k).foldl (freeStep E) s = mFree E x s) := by
    show _ = mFree E x s
    rw [List.take_of_length_le (by omega)]
    rfl
   go_wp2
   go_end0
   exact ⟨rfl, by rw [← HF.out]; exact HL1.out, HT1.out, HK1.out⟩
end Go.Proofs.YtejadojilncbjaaGreat
namespace Go.Proofs.YtejadojilncbjaaGreat
open Go.RowKit
set_option linter.unusedVariables false
theorem own_set {w : World} {base : Nat} {e : TypeId} {size n g cap i : Nat} {xs : List Value} (h : w.ownsRow base e size (.slice (some ⟨g, 0, none⟩) n cap) n xs) (hi : i < n * size) (u : Value) :
  (w.setCell ⟨g, i, none⟩ u).ownsRow base e size (.slice (some ⟨g, 0, none⟩) n cap) n (xs.set i u) := by
 refine ⟨by simpa using h.1, ?_⟩
 rcases h.2 with ⟨h0, _⟩ | ⟨g', cap', cur, hv, hb, hg, r1, r2, r3, r4⟩
 ·cases h0
 ·simp at hv
  obtain ⟨rfl, rfl⟩ := hv
  have hg' : Blk w g e cur := hg
  refine .inr ⟨g, cap, cur.setIfInBounds i u, rfl, hb, hg'.set, r1, r2, by simpa using r3, ?_⟩
  rw [Array.toList_setIfInBounds, List.take_set, r4]
theorem flat_set {α : Type} {f : α → List Value} {n : Nat} (hf : ∀ a, (f a).length = n) : ∀ (l : List α) (i j : Nat) (u : Value) (b : α), j < n → i < l.length → (∀ a, l[i]? = some a → f b = (f a).set j u) → (l.flatMap f).set (i * n + j) u = (l.set i b).flatMap f
 | [], i, j, u, b, hj, hi, h => by simp at hi
 | a :: l, 0, j, u, b, hj, hi, h => by
  have h0 := h a rfl
  rw [List.flatMap_cons, Nat.zero_mul, Nat.zero_add, List.set_append, if_pos (by rw [hf]; exact hj), List.set_cons_zero, List.flatMap_cons, h0]
 | a :: l, i + 1, j, u, b, hj, hi, h => by
  rw [List.flatMap_cons, List.set_append, if_neg (by rw [hf, Nat.add_mul]; omega), hf, show (i + 1) * n + j - n = i * n + j from by rw [Nat.add_mul]; omega,
      flat_set hf l i j u b hj (by simpa using hi) (fun c hc => h c (by simpa using hc)), List.set_cons_succ, List.flatMap_cons]
theorem zip_set {α β : Type} : ∀ (l : List α) (m : List β) (n : Nat) (a : α) (b : β), (l.zip m).set n (a, b) = (l.set n a).zip (m.set n b)
 | [], _, _, _, _ => by simp
 | _ :: _, [], _, _, _ => by simp
 | x :: l, y :: m, 0, a, b => by simp
 | x :: l, y :: m, n + 1, a, b => by simp [zip_set l m n a b]
theorem rowCells_set {L : List AttD} {nvs : List Value} {n j : Nat} {u : Value} {a : AttD} {nv : Value} {a' : AttD} {nv' : Value} (hl : nvs.length = L.length) (hn : n < L.length) (hj : j < 8) (ha : L[n]? = some a) (hv : nvs[n]? = some nv)
  (he : attCells a' nv' = (attCells a nv).set j u) : (rowCells L nvs).set (n * 8 + j) u = rowCells (L.set n a') (nvs.set n nv') := by
 unfold rowCells
 rw [flat_set (f := fun q : AttD × Value => attCells q.1 q.2) (n := 8) (fun _ => rfl) (L.zip nvs) n j u (a', nv') hj (by simp; omega) (fun q hq => ?_)]
 ·congr 1
  rw [zip_set]
 ·have : (L.zip nvs)[n]? = some (a, nv) := by rw [List.getElem?_zip_eq_some]; exact ⟨ha, hv⟩
  rw [this] at hq
  simp at hq
  subst hq
  exact he
theorem modLast_eq {L : List AttD} {n : Nat} {a : AttD} (f : AttD → AttD) (hn : L.length = n + 1) (ha : L[n]? = some a) : modLast L f = L.set n (f a) := by
 unfold modLast
 rw [hn, Nat.add_sub_cancel]
 apply List.ext_getElem?
 intro i
 rw [List.getElem?_modify, List.getElem?_set]
 by_cases h : n = i
 ·subst h
  rw [ha]
  simp
  omega
 ·simp [h]
theorem ListRep.num {w : World} {B g lc n j : Nat} {L : List AttD} {v : Int} {f : AttD → AttD} (h : ListRep w B (some ⟨g, 0, none⟩) lc L) (hn : L.length = n + 1) (hj : j < 7)
  (hf : ∀ a nv, attCells (f a) nv = (attCells a nv).set j (.int .i64 v)) (hfn : ∀ a, (f a).notes = a.notes) : ListRep (w.setCell ⟨g, n * 8 + j, none⟩ (.int .i64 v)) B (some ⟨g, 0, none⟩) lc (modLast L f) := by
 obtain ⟨nvs, hl, ho, hno, hd⟩ := h
 obtain ⟨a, ha⟩ : ∃ a, L[n]? = some a := ⟨L[n]'(by omega), List.getElem?_eq_getElem (by omega)⟩
 obtain ⟨nv, hv⟩ : ∃ nv, nvs[n]? = some nv := ⟨nvs[n]'(by omega), List.getElem?_eq_getElem (by omega)⟩
 rw [modLast_eq f hn ha]
 have hg : ∃ cur, Blk w g 63 cur := by
  obtain ⟨g', cap, cur, hv', _, hb, _⟩ := own_block ho (by omega)
  simp at hv'
  obtain ⟨rfl, _⟩ := hv'
  exact ⟨cur, hb⟩
 obtain ⟨cur, hg⟩ := hg
 have hk : Kp [63] B g g w (w.setCell ⟨g, n * 8 + j, none⟩ (.int .i64 v)) := ⟨rfl, rfl, rfl, by simp [World.setCell], fun k _ h1 _ => Below.heap_setCell _ _ _ _ (by simpa using h1), fun k t cs fr hk ht => by
     rw [Below.heap_setCell _ _ _ _ (fun e => ht (by
               simp at e
               subst e
               have : w.heap[k]? = some (.cells cur 63 (0, 0)) := hg
               rw [this] at hk
               simp at hk
               simp [← hk.2.1]))]
     exact hk⟩
 refine ⟨nvs, by simpa using hl, ?_, fun i b u hi hu => ?_, hd⟩
 ·have h1 := own_set ho (i := n * 8 + j) (by omega) (.int .i64 v)
  rw [rowCells_set hl (by omega) (by omega) ha hv (hf a nv)] at h1
  have e : nvs.set n nv = nvs := by
   apply List.ext_getElem? ; intro i; rw [List.getElem?_set]; split
   ·rename_i h; subst h; simp [hv]; omega
   ·rfl
  rw [e] at h1
  simpa using h1
 ·have hnn : ∃ a0, L[i]? = some a0 ∧ b.notes = a0.notes := by
   rw [List.getElem?_set] at hi
   split at hi
   ·rename_i h; subst h
    rw [if_pos (by omega)] at hi
    simp at hi
    exact ⟨a, ha, by rw [← hi, hfn]⟩
   ·exact ⟨b, hi, rfl⟩
  obtain ⟨a0, h0, h1⟩ := hnn
  rw [h1]
  exact ownsRow_keep (hno i a0 u h0 hu) hk (by simp)
theorem ListRep.note {w w0 w1 : World} {B g lc n : Nat} {L : List AttD} {nvs : List Value} {a : AttD} {nv : Value} {q : NoteD} {gn cap : Nat} (hl : nvs.length = L.length)
  (ho : w.ownsRow B 63 8 (.slice (some ⟨g, 0, none⟩) L.length lc) L.length (rowCells L nvs)) (hno : ∀ (i : Nat) (a : AttD) (nv : Value), L[i]? = some a → nvs[i]? = some nv → w.ownsRow B 95 3 nv a.notes.length (a.notes.flatMap noteCells))
  (hd : ∀ (i j : Nat) (u v : Value) (k : Nat), nvs[i]? = some u → nvs[j]? = some v → u.ownBlock = some k → v.ownBlock = some k → i = j) (hn : L.length = n + 1) (ha : L[n]? = some a) (hv : nvs[n]? = some nv)
  (hb0 : Below w.heap.size w w0) (hB : B ≤ w.heap.size) (hgr : w0.grownBy w1 nv.ownBlock) (hown : w1.ownsRow B 95 3 (.slice (some ⟨gn, 0, none⟩) (a.notes.length + 1) cap) (a.notes.length + 1) (a.notes.flatMap noteCells ++ noteCells q))
  (hat : nv.ownBlock = some gn ∨ w.heap.size ≤ gn) :
  ListRep (w1.setCell ⟨g, n * 8 + 7, none⟩ (.slice (some ⟨gn, 0, none⟩) (a.notes.length + 1) cap)) B (some ⟨g, 0, none⟩) lc (modLast L fun a => { a with notes := a.notes ++ [q] }) := by
 have hk0 : Kp [95] B 0 0 w w0 := Kp.below hb0 hB
 have ho0 : w0.ownsRow B 95 3 nv a.notes.length (a.notes.flatMap noteCells) := ownsRow_keep (hno n a nv ha hv) (Kp.below (chg := []) (p := 0) (eb := 0) hb0 hB) (by simp)
 have hk1 : Kp [95] B 0 0 w0 w1 := Kp.grown hgr (Nat.le_trans hB hb0.size) ho0 (by simp)
 have ho1 : w1.ownsRow B 63 8 (.slice (some ⟨g, 0, none⟩) L.length lc) L.length (rowCells L nvs) := ownsRow_keep ho (hk0.trans hk1) (by simp)
 obtain ⟨g', cap', cur, hv', _, hb, _⟩ := own_block ho1 (by omega)
 simp at hv'
 obtain ⟨rfl, rfl⟩ := hv'
 have hk2 : Kp [63] B g g w1 (w1.setCell ⟨g, n * 8 + 7, none⟩ (.slice (some ⟨gn, 0, none⟩) (a.notes.length + 1) cap)) := ⟨rfl, rfl, rfl, by simp [World.setCell], fun k _ h1 _ => Below.heap_setCell _ _ _ _ (by simpa using h1), fun k t cs fr hk ht => by
     rw [Below.heap_setCell _ _ _ _ (fun e => ht (by
               simp at e
               subst e
               have : w1.heap[k]? = some (.cells cur 63 (0, 0)) := hb
               rw [this] at hk
               simp at hk
               simp [← hk.2.1]))]
     exact hk⟩
 rw [modLast_eq _ hn ha]
 refine ⟨nvs.set n (.slice (some ⟨gn, 0, none⟩) (a.notes.length + 1) cap), by simpa using hl, ?_, fun i b u hi hu => ?_, fun i j u v k hi hj hu hv2 => ?_⟩
 ·have h1 := own_set ho1 (i := n * 8 + 7) (by omega) (.slice (some ⟨gn, 0, none⟩) (a.notes.length + 1) cap)
  rw [rowCells_set (a' := { a with notes := a.notes ++ [q] }) hl (by omega) (by omega) ha hv rfl] at h1
  simpa using h1
 ·by_cases hin : i = n
  ·subst hin
   simp [show i < L.length by omega, show i < nvs.length by omega] at hi hu
   subst hi hu
   have := ownsRow_keep hown hk2 (by simp)
   simpa [List.flatMap_append] using this
  ·rw [List.getElem?_set, if_neg (by omega)] at hi hu
   have h3 := ownsRow_keep (hno i b u hi hu) (Kp.below (chg := []) (p := 0) (eb := 0) hb0 hB) (by simp)
   refine ownsRow_keep (h3.kept hgr ?_) hk2 (by simp)
   cases hub : u.ownBlock with
   | none => exact Or.inl rfl
   | some k => exact Or.inr (fun e => hin (hd i n u nv k hu hv hub e.symm))
 ·have hlow : ∀ (i : Nat) (u : Value) (k : Nat), nvs[i]? = some u → u.ownBlock = some k → k < w.heap.size := fun i u k hi hu => by
   have hiL : i < L.length := by rw [← hl]; exact (List.getElem?_eq_some_iff.1 hi).1
   exact ((hno i L[i] u (List.getElem?_eq_getElem hiL) hi).lt k hu).2
  by_cases hin : i = n <;> by_cases hjn : j = n
  ·omega
  ·subst hin
   rw [List.getElem?_set, if_neg (by omega)] at hj
   simp [show i < nvs.length by omega] at hi
   subst hi
   simp [Value.ownBlock] at hu
   subst hu
   rcases hat with hat | hat
   ·exact hd i j nv v gn hv hj hat hv2
   ·have := hlow j v gn hj hv2; omega
  ·subst hjn
   rw [List.getElem?_set, if_neg (by omega)] at hi
   simp [show j < nvs.length by omega] at hj
   subst hj
   simp [Value.ownBlock] at hv2
   subst hv2
   rcases hat with hat | hat
   ·exact hd i j u nv gn hi hv hu hat
   ·have := hlow i u gn hi hu; omega
  ·rw [List.getElem?_set, if_neg (by omega)] at hi hj
   exact hd i j u v k hi hj hu hv2
end Go.Proofs.YtejadojilncbjaaGreat
