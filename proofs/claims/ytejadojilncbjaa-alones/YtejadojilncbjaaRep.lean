import Derived.Test.YtejadojilncbjaaModel
import Derived.Deep.RegionHeld3
import Derived.Deep.AppendLies
import Derived.Deep.DrawnRows
import Derived.WalkSmall
namespace Go.Proofs.Ytejadojilncbjaa
open Go.RowKit
set_option linter.unusedVariables false

/-- Where the slices of a life lie that stay as they are. -/
structure Hd where
  ma : Option Addr
  ml : Nat
  mc : Nat
  ja : Option Addr
  jc : Nat
  sa : Option Addr
  sc : Nat
  da : Option Addr
  dc : Nat
  wa : Option Addr
  wc : Nat
  ea : Option Addr
  ec : Nat

/-- A life's cells. -/
def lifeArr (E : Env) (H : Hd) (la : Option Addr) (lc : Nat) (s : LS) : Array Value :=
  #[.int .i64 E.c.t, .int .i64 E.c.wd, .int .i64 E.c.s, .int .i64 E.c.g, .int .i64 E.c.r, .int .i64 E.c.cp, .int .i64 E.c.f, .slice H.ma H.ml H.mc, .slice H.ja E.jobs.length H.jc,
    .int .i64 E.me, .slice H.sa E.seen.length H.sc, .slice H.da E.draws.length H.dc, .slice H.wa E.whens.length H.wc, .int .i64 s.pos, .bool s.over,
    .int .i64 s.next.kind, .int .i64 s.next.cell, .int .i64 s.next.frm, .int .i64 s.next.to, .int .i64 s.rank, .int .i64 s.fails, .slice la s.list.length lc, .slice H.ea s.ends.length H.ec]

/-- Block p holds the cells cs. -/
def Blk (w : World) (p : Nat) (t : TypeId) (cs : Array Value) : Prop := w.heap[p]? = some (.cells cs t (0, 0))

theorem Blk.cell {w : World} {p : Nat} {t : TypeId} {cs : Array Value} (h : Blk w p t cs) : ∀ i, w.cell? ⟨p, i, none⟩ = cs[i]? := fun i => by
  simp [World.cell?, show w.heap[p]? = some (.cells cs t (0, 0)) from h]
theorem Blk.frozen {w : World} {p : Nat} {t : TypeId} {cs : Array Value} (h : Blk w p t cs) : ∀ i, w.frozen? ⟨p, i, none⟩ = false := fun i => by
  simp [World.frozen?, show w.heap[p]? = some (.cells cs t (0, 0)) from h]
theorem Blk.lt {w : World} {p : Nat} {t : TypeId} {cs : Array Value} (h : Blk w p t cs) : p < w.heap.size := by
  rcases Nat.lt_or_ge p w.heap.size with h' | h'
  · exact h'
  · have : w.heap[p]? = some (.cells cs t (0, 0)) := h
    rw [Array.getElem?_eq_none h'] at this; cases this
theorem Blk.ne {w : World} {p q : Nat} {t u : TypeId} {cs ds : Array Value} (h : Blk w p t cs) (k : Blk w q u ds) (hne : t ≠ u) : p ≠ q := fun e => by
  subst e
  have h1 : w.heap[p]? = some (.cells cs t (0, 0)) := h
  have h2 : w.heap[p]? = some (.cells ds u (0, 0)) := k
  rw [h1] at h2
  simp at h2
  exact hne h2.2
theorem Blk.below {w w' : World} {p B : Nat} {t : TypeId} {cs : Array Value} (h : Blk w p t cs) (hb : Below B w w') (hp : p < B) : Blk w' p t cs := (hb.block p hp).trans h
theorem Blk.drewN {w : World} {p : Nat} {t : TypeId} {cs : Array Value} (h : Blk w p t cs) (n : Nat) : Blk (w.drewN n) p t cs := h
theorem Blk.alloc {w : World} {p : Nat} {t : TypeId} {cs : Array Value} (h : Blk w p t cs) (o : Obj) : Blk (w.alloc o) p t cs := h.below ((Below.refl _ _).alloc (Nat.le_refl _) o) h.lt
theorem Blk.new (w : World) (t : TypeId) (cs : Array Value) : Blk (w.alloc (.cells cs t)) w.heap.size t cs := heap_alloc_new w _

/-- Of all blocks that were there, p alone may have turned; new ones may have come. -/
structure Only (p : Nat) (w w' : World) : Prop where
  os : w'.os = w.os
  tape : w'.tape = w.tape
  output : w'.output = w.output
  size : w.heap.size ≤ w'.heap.size
  block : ∀ k, k < w.heap.size → k ≠ p → w'.heap[k]? = w.heap[k]?

theorem Only.refl (p : Nat) (w : World) : Only p w w := ⟨rfl, rfl, rfl, Nat.le_refl _, fun _ _ _ => rfl⟩
theorem Only.trans {p : Nat} {a b c : World} (h : Only p a b) (k : Only p b c) : Only p a c :=
  ⟨k.os.trans h.os, k.tape.trans h.tape, k.output.trans h.output, Nat.le_trans h.size k.size, fun i hi hp => (k.block i (Nat.lt_of_lt_of_le hi h.size) hp).trans (h.block i hi hp)⟩
theorem Only.below {p : Nat} {w w' : World} (h : Below w.heap.size w w') : Only p w w' := ⟨h.os, h.tape, h.output, h.size, fun k hk _ => h.block k hk⟩
theorem Only.drewN {p : Nat} {w w' : World} (h : Only p w w') (n : Nat) : Only p w (w'.drewN n) := ⟨h.os, h.tape, h.output, h.size, h.block⟩
theorem Only.drew {p : Nat} {w w' : World} (h : Only p w w') : Only p w w'.drew := ⟨h.os, h.tape, h.output, h.size, h.block⟩
theorem Only.set {p i : Nat} {w w' : World} {v : Value} (h : Only p w w') : Only p w (w'.setCell ⟨p, i, none⟩ v) :=
  h.trans ⟨rfl, rfl, rfl, by simp [World.setCell], fun k _ hk => Below.heap_setCell _ _ _ _ (by simpa using hk)⟩
theorem Blk.only {w w' : World} {p q : Nat} {t : TypeId} {cs : Array Value} (h : Blk w q t cs) (ho : Only p w w') (hne : q ≠ p) : Blk w' q t cs := (ho.block q h.lt hne).trans h
theorem Blk.set {w : World} {p i : Nat} {t : TypeId} {cs : Array Value} {v : Value} (h : Blk w p t cs) : Blk (w.setCell ⟨p, i, none⟩ v) p t (cs.setIfInBounds i v) := by
  show (w.setCell ⟨p, i, none⟩ v).heap[p]? = _
  rw [setCell_eq_setRow w p i cs t (0, 0) v h]
  exact setRow_heap w p _ _ t _ h
theorem Blk.congr {w : World} {p : Nat} {t : TypeId} {cs ds : Array Value} (h : Blk w p t cs) (e : cs = ds) : Blk w p t ds := e ▸ h

theorem Ints.only {p : Nat} {w w' : World} {B : Nat} {a : Option Addr} {zs : List Int} (h : Ints w B a zs) (ho : Only p w w') (hne : ∀ b off, a = some ⟨b, off, none⟩ → zs ≠ [] → b ≠ p) : Ints w' B a zs := by
  intro i hi
  obtain ⟨b, off, ha, hlt, hc⟩ := h i hi
  refine ⟨b, off, ha, hlt, ?_⟩
  have hz : zs ≠ [] := fun e => by simp [e] at hi
  rw [World.cell?_of_block (w := w) (ho.block b (block_lt hc) (hne b off ha hz))]
  exact hc

set_option maxHeartbeats 1000000 in
theorem ask_any (E : Env) (H : Hd) (la : Option Addr) (lc : Nat) (s : LS) (p : Nat) (k c f t : Int) (w : World) (hb : Blk w p 78 (lifeArr E H la lc s)) (hs : Ints w w.heap.size H.sa E.seen)
    (hpos : s.pos ≤ E.seen.length) (hlen : E.seen.length ≤ 2 ^ 45) :
    Calls Try.prog 59 #[.pointer (some ⟨p, 0, none⟩), .int .i64 k, .int .i64 c, .int .i64 f, .int .i64 t] w fun e w' =>
      e = .returned (.int .i64 (mAsk E s ⟨k, c, f, t⟩).1) ∧ Blk w' p 78 (lifeArr E H la lc (mAsk E s ⟨k, c, f, t⟩).2) ∧ Only p w w' := by
  have hcl := hb.cell
  have hfl := hb.frozen
  have hlt := hb.lt
  have HB : Hid (Blk w p 78 (lifeArr E H la lc s)) := hb
  have HS : Hid (Ints w w.heap.size H.sa E.seen) := hs
  clear hb hs
  unfold lifeArr at hcl
  obtain ⟨pos, over, next, rank, fails, list, ends⟩ := s
  cases over with
  | true =>
    go_enter Try.func59, Try.ntmps59
    go_wp2
    go_ret
    exact ⟨by simp [mAsk], by simpa [mAsk] using HB.out, Only.refl _ _⟩
  | false =>
    by_cases hle : E.seen.length ≤ pos
    · have hI : ((E.seen.length : Nat) : Int) ≤ (pos : Int) := by omega
      go_enter Try.func59, Try.ntmps59
      go_wp2
      go_quiet (fail)
      go_wp2
      go_ret
      refine ⟨by simp [mAsk, hle], ?_, ?_⟩
      · exact (((((((HB.out).drewN nq).set).set).set).set).set).congr (by simp [mAsk, hle, lifeArr])
      · exact ((((((Only.refl _ _).drewN nq).set).set).set).set).set
    · have hI : ¬ ((E.seen.length : Nat) : Int) ≤ (pos : Int) := by omega
      have hI2 : (pos : Int) < (E.seen.length : Nat) := by omega
      obtain ⟨b, off, ha, hbl, hc⟩ := HS.out pos (by omega)
      obtain ⟨z, hz⟩ : ∃ z, z = E.seen.getD pos 0 := ⟨_, rfl⟩
      rw [← hz] at hc
      have HZ : Hid (z = E.seen.getD pos 0) := hz
      have HP : Hid (¬ E.seen.length ≤ pos) := hle
      rw [ha] at hcl
      clear hz hle
      go_enter Try.func59, Try.ntmps59
      go_wp2
      go_quiet (fail)
      go_wp2
      go_quiet (fail)
      go_wp2
      go_ret
      refine ⟨by simp [mAsk, HP.out, HZ.out], ?_, ?_⟩
      · exact (((HB.out).drewN _).set).congr (by simp [mAsk, HP.out, lifeArr])
      · exact ((Only.refl _ _).drewN _).set

end Go.Proofs.Ytejadojilncbjaa
