import Derived.Test.YtejadojilncbjaaGreatG01
import Derived.Deep.RegionHeld3
import Derived.Deep.AppendLies
import Derived.Deep.DrawnRows
import Derived.WalkSmall
namespace Go.Proofs.YtejadojilncbjaaGreat
open Go.RowKit
set_option linter.unusedVariables false

/-- Where the slices of a life lie that stay as they are. -/
structure Hd where
  ma : Option Addr
  ml : Nat
  mc : Nat
  ja : Option Addr
  jc : Nat
  sa : Option Addr
  sc : Nat
  da : Option Addr
  dc : Nat
  wa : Option Addr
  wc : Nat
  ea : Option Addr
  ec : Nat

/-- A life's cells. -/
def lifeArr (E : Env) (H : Hd) (la : Option Addr) (lc : Nat) (s : LS) : Array Value :=
  #[.int .i64 E.c.t, .int .i64 E.c.wd, .int .i64 E.c.s, .int .i64 E.c.g, .int .i64 E.c.r, .int .i64 E.c.cp, .int .i64 E.c.f, .slice H.ma H.ml H.mc, .slice H.ja E.jobs.length H.jc,
    .int .i64 E.me, .slice H.sa E.seen.length H.sc, .slice H.da E.draws.length H.dc, .slice H.wa E.whens.length H.wc, .int .i64 s.pos, .bool s.over,
    .int .i64 s.next.kind, .int .i64 s.next.cell, .int .i64 s.next.frm, .int .i64 s.next.to, .int .i64 s.rank, .int .i64 s.fails, .slice la s.list.length lc, .slice H.ea s.ends.length H.ec]

/-- Block p holds the cells cs. -/
def Blk (w : World) (p : Nat) (t : TypeId) (cs : Array Value) : Prop := w.heap[p]? = some (.cells cs t (0, 0))

theorem Blk.cell {w : World} {p : Nat} {t : TypeId} {cs : Array Value} (h : Blk w p t cs) : ∀ i, w.cell? ⟨p, i, none⟩ = cs[i]? := fun i => by
  simp [World.cell?, show w.heap[p]? = some (.cells cs t (0, 0)) from h]
theorem Blk.frozen {w : World} {p : Nat} {t : TypeId} {cs : Array Value} (h : Blk w p t cs) : ∀ i, w.frozen? ⟨p, i, none⟩ = false := fun i => by
  simp [World.frozen?, show w.heap[p]? = some (.cells cs t (0, 0)) from h]
theorem Blk.lt {w : World} {p : Nat} {t : TypeId} {cs : Array Value} (h : Blk w p t cs) : p < w.heap.size := by
  rcases Nat.lt_or_ge p w.heap.size with h' | h'
  · exact h'
  · have : w.heap[p]? = some (.cells cs t (0, 0)) := h
    rw [Array.getElem?_eq_none h'] at this; cases this
theorem Blk.ne {w : World} {p q : Nat} {t u : TypeId} {cs ds : Array Value} (h : Blk w p t cs) (k : Blk w q u ds) (hne : t ≠ u) : p ≠ q := fun e => by
  subst e
  have h1 : w.heap[p]? = some (.cells cs t (0, 0)) := h
  have h2 : w.heap[p]? = some (.cells ds u (0, 0)) := k
  rw [h1] at h2
  simp at h2
  exact hne h2.2
theorem Blk.below {w w' : World} {p B : Nat} {t : TypeId} {cs : Array Value} (h : Blk w p t cs) (hb : Below B w w') (hp : p < B) : Blk w' p t cs := (hb.block p hp).trans h
theorem Blk.drewN {w : World} {p : Nat} {t : TypeId} {cs : Array Value} (h : Blk w p t cs) (n : Nat) : Blk (w.drewN n) p t cs := h
theorem Blk.alloc {w : World} {p : Nat} {t : TypeId} {cs : Array Value} (h : Blk w p t cs) (o : Obj) : Blk (w.alloc o) p t cs := h.below ((Below.refl _ _).alloc (Nat.le_refl _) o) h.lt
theorem Blk.new (w : World) (t : TypeId) (cs : Array Value) : Blk (w.alloc (.cells cs t)) w.heap.size t cs := heap_alloc_new w _

/-- Of all blocks that were there, p alone may have turned; new ones may have come. -/
structure Only (p : Nat) (w w' : World) : Prop where
  os : w'.os = w.os
  tape : w'.tape = w.tape
  output : w'.output = w.output
  size : w.heap.size ≤ w'.heap.size
  block : ∀ k, k < w.heap.size → k ≠ p → w'.heap[k]? = w.heap[k]?

theorem Only.refl (p : Nat) (w : World) : Only p w w := ⟨rfl, rfl, rfl, Nat.le_refl _, fun _ _ _ => rfl⟩
theorem Only.trans {p : Nat} {a b c : World} (h : Only p a b) (k : Only p b c) : Only p a c :=
  ⟨k.os.trans h.os, k.tape.trans h.tape, k.output.trans h.output, Nat.le_trans h.size k.size, fun i hi hp => (k.block i (Nat.lt_of_lt_of_le hi h.size) hp).trans (h.block i hi hp)⟩
theorem Only.below {p : Nat} {w w' : World} (h : Below w.heap.size w w') : Only p w w' := ⟨h.os, h.tape, h.output, h.size, fun k hk _ => h.block k hk⟩
theorem Only.drewN {p : Nat} {w w' : World} (h : Only p w w') (n : Nat) : Only p w (w'.drewN n) := ⟨h.os, h.tape, h.output, h.size, h.block⟩
theorem Only.drew {p : Nat} {w w' : World} (h : Only p w w') : Only p w w'.drew := ⟨h.os, h.tape, h.output, h.size, h.block⟩
theorem Only.set {p i : Nat} {w w' : World} {v : Value} (h : Only p w w') : Only p w (w'.setCell ⟨p, i, none⟩ v) :=
  h.trans ⟨rfl, rfl, rfl, by simp [World.setCell], fun k _ hk => Below.heap_setCell _ _ _ _ (by simpa using hk)⟩
theorem Blk.only {w w' : World} {p q : Nat} {t : TypeId} {cs : Array Value} (h : Blk w q t cs) (ho : Only p w w') (hne : q ≠ p) : Blk w' q t cs := (ho.block q h.lt hne).trans h
theorem Blk.set {w : World} {p i : Nat} {t : TypeId} {cs : Array Value} {v : Value} (h : Blk w p t cs) : Blk (w.setCell ⟨p, i, none⟩ v) p t (cs.setIfInBounds i v) := by
  show (w.setCell ⟨p, i, none⟩ v).heap[p]? = _
  rw [setCell_eq_setRow w p i cs t (0, 0) v h]
  exact setRow_heap w p _ _ t _ h
theorem Blk.congr {w : World} {p : Nat} {t : TypeId} {cs ds : Array Value} (h : Blk w p t cs) (e : cs = ds) : Blk w p t ds := e ▸ h

theorem Ints.only {p : Nat} {w w' : World} {B : Nat} {a : Option Addr} {zs : List Int} (h : Ints w B a zs) (ho : Only p w w') (hne : ∀ b off, a = some ⟨b, off, none⟩ → zs ≠ [] → b ≠ p) : Ints w' B a zs := by
  intro i hi
  obtain ⟨b, off, ha, hlt, hc⟩ := h i hi
  refine ⟨b, off, ha, hlt, ?_⟩
  have hz : zs ≠ [] := fun e => by simp [e] at hi
  rw [World.cell?_of_block (w := w) (ho.block b (block_lt hc) (hne b off ha hz))]
  exact hc

end Go.Proofs.YtejadojilncbjaaGreat

namespace Go.Proofs.YtejadojilncbjaaGreat
open Go.RowKit
set_option linter.unusedVariables false
attribute [local go_sem ↓] Go.wp_at_zero Go.wp_at_succ

theorem wrapP (n : Int) (h1 : -1152921504606846976 ≤ n) (h2 : n ≤ 1152921504606846976) : IntKind.i64.wrap n = n := by rw [IntKind.wrap_i64]; omega

theorem isReg_any (v : Int) (w : World) : Calls Tryz.prog 171 #[.int .i64 v] w fun e w' => e = .returned (.bool (inB v 0 3)) ∧ w' = w := by
  go_enter Tryz.func171, Tryz.ntmps171
  go_wp2_with (go_at_call 75; refine (within_any _ _ _ _).mono ?_; rintro e w' ⟨rfl, rfl⟩)
  go_ret
  exact ⟨rfl, rfl⟩

theorem sum_any (a b : Int) (w : World) (h1 : 0 ≤ a ∧ a ≤ 65535) (h2 : 0 ≤ b ∧ b ≤ 65535) : Calls Tryz.prog 172 #[.int .i64 a, .int .i64 b] w fun e w' => e = .returned (.int .i64 ((a + b).tmod 65536)) ∧ w' = w := by
  obtain ⟨h1, h1'⟩ := h1
  obtain ⟨h2, h2'⟩ := h2
  have hw : IntKind.i64.wrap (a + b) = a + b := wrapP _ (by omega) (by omega)
  have hw2 : IntKind.i64.wrap (a + b - 65536) = a + b - 65536 := wrapP _ (by omega) (by omega)
  have he : (a + b).tmod 65536 = if 65535 < a + b then a + b - 65536 else a + b := by
    rw [Int.tmod_eq_emod_of_nonneg (by omega)]
    split <;> omega
  have HE : Hid ((a + b).tmod 65536 = if 65535 < a + b then a + b - 65536 else a + b) := he
  clear he
  by_cases h : 65535 < a + b
  · go_enter Tryz.func172, Tryz.ntmps172
    go_wp2
    go_ret
    exact ⟨by rw [HE.out, if_pos h]; rfl, rfl⟩
  · go_enter Tryz.func172, Tryz.ntmps172
    go_wp2
    go_ret
    exact ⟨by rw [HE.out, if_neg (by omega)]; rfl, rfl⟩

theorem diff_any (a b : Int) (w : World) (h1 : 0 ≤ a ∧ a ≤ 65535) (h2 : 0 ≤ b ∧ b ≤ 65535) : Calls Tryz.prog 173 #[.int .i64 a, .int .i64 b] w fun e w' => e = .returned (.int .i64 ((a + 65535 + 1 - b).tmod 65536)) ∧ w' = w := by
  obtain ⟨h1, h1'⟩ := h1
  obtain ⟨h2, h2'⟩ := h2
  have hw : IntKind.i64.wrap (a - b) = a - b := wrapP _ (by omega) (by omega)
  have hw2 : IntKind.i64.wrap (a - b + 65536) = a - b + 65536 := wrapP _ (by omega) (by omega)
  have he : (a + 65535 + 1 - b).tmod 65536 = if a - b < 0 then a - b + 65536 else a - b := by
    rw [Int.tmod_eq_emod_of_nonneg (by omega)]
    split <;> omega
  have HE : Hid ((a + 65535 + 1 - b).tmod 65536 = if a - b < 0 then a - b + 65536 else a - b) := he
  clear he
  by_cases h : a - b < 0
  · go_enter Tryz.func173, Tryz.ntmps173
    go_wp2
    go_ret
    exact ⟨by rw [HE.out, if_pos h]; rfl, rfl⟩
  · go_enter Tryz.func173, Tryz.ntmps173
    go_wp2
    go_ret
    exact ⟨by rw [HE.out, if_neg (by omega)]; rfl, rfl⟩

set_option maxHeartbeats 2000000 in
theorem wellFormed_core (op a b c n : Int) (w : World) :
    Calls Tryz.prog 156 #[.agg #[.int .i64 op, .int .i64 a, .int .i64 b, .int .i64 c], .int .i64 n] w fun e w' =>
      e = .returned (.bool (formedB ⟨op, a, b, c⟩ n)) ∧ Below w.heap.size w w' := by
  by_cases h0 : op = 0
  · subst h0
    go_enter Tryz.func156, Tryz.ntmps156
    go_wp2_with (first | (go_at_call 75; refine (within_any _ _ _ _).mono ?_; rintro e w' ⟨rfl, rfl⟩) | (go_at_call 171; refine (isReg_any _ _).mono ?_; rintro e w' ⟨rfl, rfl⟩))
    all_goals
      go_ret
      exact ⟨by simp [formedB, *], (Below.refl _ _).alloc (Nat.le_refl _) _⟩
  by_cases h1 : op = 1
  · subst h1
    go_enter Tryz.func156, Tryz.ntmps156
    go_wp2_with (first | (go_at_call 75; refine (within_any _ _ _ _).mono ?_; rintro e w' ⟨rfl, rfl⟩) | (go_at_call 171; refine (isReg_any _ _).mono ?_; rintro e w' ⟨rfl, rfl⟩))
    all_goals
      go_ret
      exact ⟨by simp [formedB, *], (Below.refl _ _).alloc (Nat.le_refl _) _⟩
  by_cases h2 : op = 2
  · subst h2
    go_enter Tryz.func156, Tryz.ntmps156
    go_wp2_with (first | (go_at_call 75; refine (within_any _ _ _ _).mono ?_; rintro e w' ⟨rfl, rfl⟩) | (go_at_call 171; refine (isReg_any _ _).mono ?_; rintro e w' ⟨rfl, rfl⟩))
    all_goals
      go_ret
      exact ⟨by simp [formedB, *], (Below.refl _ _).alloc (Nat.le_refl _) _⟩
  by_cases h3 : op = 3
  · subst h3
    go_enter Tryz.func156, Tryz.ntmps156
    go_wp2_with (first | (go_at_call 75; refine (within_any _ _ _ _).mono ?_; rintro e w' ⟨rfl, rfl⟩) | (go_at_call 171; refine (isReg_any _ _).mono ?_; rintro e w' ⟨rfl, rfl⟩))
    all_goals
      go_ret
      exact ⟨by simp [formedB, *], (Below.refl _ _).alloc (Nat.le_refl _) _⟩
  by_cases h4 : op = 4
  · subst h4
    go_enter Tryz.func156, Tryz.ntmps156
    go_wp2_with (first | (go_at_call 75; refine (within_any _ _ _ _).mono ?_; rintro e w' ⟨rfl, rfl⟩) | (go_at_call 171; refine (isReg_any _ _).mono ?_; rintro e w' ⟨rfl, rfl⟩))
    all_goals
      go_ret
      exact ⟨by simp [formedB, *], (Below.refl _ _).alloc (Nat.le_refl _) _⟩
  by_cases h5 : op = 5
  · subst h5
    go_enter Tryz.func156, Tryz.ntmps156
    go_wp2_with (first | (go_at_call 75; refine (within_any _ _ _ _).mono ?_; rintro e w' ⟨rfl, rfl⟩) | (go_at_call 171; refine (isReg_any _ _).mono ?_; rintro e w' ⟨rfl, rfl⟩))
    all_goals
      go_ret
      exact ⟨by simp [formedB, *], (Below.refl _ _).alloc (Nat.le_refl _) _⟩
  by_cases h6 : op = 6
  · subst h6
    go_enter Tryz.func156, Tryz.ntmps156
    go_wp2_with (first | (go_at_call 75; refine (within_any _ _ _ _).mono ?_; rintro e w' ⟨rfl, rfl⟩) | (go_at_call 171; refine (isReg_any _ _).mono ?_; rintro e w' ⟨rfl, rfl⟩))
    all_goals
      go_ret
      exact ⟨by simp [formedB, *], (Below.refl _ _).alloc (Nat.le_refl _) _⟩
  by_cases h7 : op = 7
  · subst h7
    go_enter Tryz.func156, Tryz.ntmps156
    go_wp2_with (first | (go_at_call 75; refine (within_any _ _ _ _).mono ?_; rintro e w' ⟨rfl, rfl⟩) | (go_at_call 171; refine (isReg_any _ _).mono ?_; rintro e w' ⟨rfl, rfl⟩))
    all_goals
      go_ret
      exact ⟨by simp [formedB, *], (Below.refl _ _).alloc (Nat.le_refl _) _⟩
  by_cases h8 : op = 8
  · subst h8
    go_enter Tryz.func156, Tryz.ntmps156
    go_wp2_with (first | (go_at_call 75; refine (within_any _ _ _ _).mono ?_; rintro e w' ⟨rfl, rfl⟩) | (go_at_call 171; refine (isReg_any _ _).mono ?_; rintro e w' ⟨rfl, rfl⟩))
    all_goals
      go_ret
      exact ⟨by simp [formedB, *], (Below.refl _ _).alloc (Nat.le_refl _) _⟩
  have HF : Hid (formedB ⟨op, a, b, c⟩ n = false) := by
    show formedB _ _ = false
    simp [formedB, h0, h1, h2, h3, h4, h5, h6, h7, h8]
  have g0 : (op == 0) = false := by simpa using h0
  have g1 : (op == 1) = false := by simpa using h1
  have g2 : (op == 2) = false := by simpa using h2
  have g3 : (op == 3) = false := by simpa using h3
  have g4 : (op == 4) = false := by simpa using h4
  have g5 : (op == 5) = false := by simpa using h5
  have g6 : (op == 6) = false := by simpa using h6
  have g7 : (op == 7) = false := by simpa using h7
  have g8 : (op == 8) = false := by simpa using h8
  clear h0 h1 h2 h3 h4 h5 h6 h7 h8
  go_enter Tryz.func156, Tryz.ntmps156
  go_wp2
  go_ret
  exact ⟨by rw [HF.out]; rfl, (Below.refl _ _).alloc (Nat.le_refl _) _⟩

end Go.Proofs.YtejadojilncbjaaGreat
