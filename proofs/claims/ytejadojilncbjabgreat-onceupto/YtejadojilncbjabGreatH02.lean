import Derived.Test.YtejadojilncbjabGreatH01
import Derived.BigRegion
import Derived.Deep.RegionLaw
import Derived.OneCell
import Derived.Deep.LoopGhost
namespace Go.Proofs.YtejadojilncbjabGreat
open Go.RowKit
set_option linter.unusedVariables false
attribute [local go_sem ↓] Go.wp_at_zero Go.wp_at_succ

theorem wrapP (n : Int) (h1 : -1152921504606846976 ≤ n) (h2 : n ≤ 1152921504606846976) : IntKind.i64.wrap n = n := by rw [IntKind.wrap_i64]; omega

theorem isReg_any (v : Int) (w : World) : Calls Tryz.prog 138 #[.int .i64 v] w fun e w' => e = .returned (.bool (inB v 0 3)) ∧ w' = w := by
  go_enter Tryz.func138, Tryz.ntmps138
  go_wp2_with (go_at_call 110; refine (within_any _ _ _ _).mono ?_; rintro e w' ⟨rfl, rfl⟩)
  go_ret
  exact ⟨rfl, rfl⟩

theorem sum_any (a b : Int) (w : World) (h1 : 0 ≤ a ∧ a ≤ 65535) (h2 : 0 ≤ b ∧ b ≤ 65535) : Calls Tryz.prog 139 #[.int .i64 a, .int .i64 b] w fun e w' => e = .returned (.int .i64 ((a + b).tmod 65536)) ∧ w' = w := by
  obtain ⟨h1, h1'⟩ := h1
  obtain ⟨h2, h2'⟩ := h2
  have hw : IntKind.i64.wrap (a + b) = a + b := wrapP _ (by omega) (by omega)
  have hw2 : IntKind.i64.wrap (a + b - 65536) = a + b - 65536 := wrapP _ (by omega) (by omega)
  have he : (a + b).tmod 65536 = if 65535 < a + b then a + b - 65536 else a + b := by
    rw [Int.tmod_eq_emod_of_nonneg (by omega)]
    split <;> omega
  have HE : Hid ((a + b).tmod 65536 = if 65535 < a + b then a + b - 65536 else a + b) := he
  clear he
  by_cases h : 65535 < a + b
  · go_enter Tryz.func139, Tryz.ntmps139
    go_wp2
    go_ret
    exact ⟨by rw [HE.out, if_pos h]; rfl, rfl⟩
  · go_enter Tryz.func139, Tryz.ntmps139
    go_wp2
    go_ret
    exact ⟨by rw [HE.out, if_neg (by omega)]; rfl, rfl⟩

theorem diff_any (a b : Int) (w : World) (h1 : 0 ≤ a ∧ a ≤ 65535) (h2 : 0 ≤ b ∧ b ≤ 65535) : Calls Tryz.prog 140 #[.int .i64 a, .int .i64 b] w fun e w' => e = .returned (.int .i64 ((a + 65535 + 1 - b).tmod 65536)) ∧ w' = w := by
  obtain ⟨h1, h1'⟩ := h1
  obtain ⟨h2, h2'⟩ := h2
  have hw : IntKind.i64.wrap (a - b) = a - b := wrapP _ (by omega) (by omega)
  have hw2 : IntKind.i64.wrap (a - b + 65536) = a - b + 65536 := wrapP _ (by omega) (by omega)
  have he : (a + 65535 + 1 - b).tmod 65536 = if a - b < 0 then a - b + 65536 else a - b := by
    rw [Int.tmod_eq_emod_of_nonneg (by omega)]
    split <;> omega
  have HE : Hid ((a + 65535 + 1 - b).tmod 65536 = if a - b < 0 then a - b + 65536 else a - b) := he
  clear he
  by_cases h : a - b < 0
  · go_enter Tryz.func140, Tryz.ntmps140
    go_wp2
    go_ret
    exact ⟨by rw [HE.out, if_pos h]; rfl, rfl⟩
  · go_enter Tryz.func140, Tryz.ntmps140
    go_wp2
    go_ret
    exact ⟨by rw [HE.out, if_neg (by omega)]; rfl, rfl⟩

set_option maxHeartbeats 2000000 in
theorem wellFormed_core (op a b c n : Int) (w : World) :
    Calls Tryz.prog 123 #[.agg #[.int .i64 op, .int .i64 a, .int .i64 b, .int .i64 c], .int .i64 n] w fun e w' =>
      e = .returned (.bool (formedB ⟨op, a, b, c⟩ n)) ∧ Below w.heap.size w w' := by
  by_cases h0 : op = 0
  · subst h0
    go_enter Tryz.func123, Tryz.ntmps123
    go_wp2_with (first | (go_at_call 110; refine (within_any _ _ _ _).mono ?_; rintro e w' ⟨rfl, rfl⟩) | (go_at_call 138; refine (isReg_any _ _).mono ?_; rintro e w' ⟨rfl, rfl⟩))
    all_goals
      go_ret
      exact ⟨by simp [formedB, *], (Below.refl _ _).alloc (Nat.le_refl _) _⟩
  by_cases h1 : op = 1
  · subst h1
    go_enter Tryz.func123, Tryz.ntmps123
    go_wp2_with (first | (go_at_call 110; refine (within_any _ _ _ _).mono ?_; rintro e w' ⟨rfl, rfl⟩) | (go_at_call 138; refine (isReg_any _ _).mono ?_; rintro e w' ⟨rfl, rfl⟩))
    all_goals
      go_ret
      exact ⟨by simp [formedB, *], (Below.refl _ _).alloc (Nat.le_refl _) _⟩
  by_cases h2 : op = 2
  · subst h2
    go_enter Tryz.func123, Tryz.ntmps123
    go_wp2_with (first | (go_at_call 110; refine (within_any _ _ _ _).mono ?_; rintro e w' ⟨rfl, rfl⟩) | (go_at_call 138; refine (isReg_any _ _).mono ?_; rintro e w' ⟨rfl, rfl⟩))
    all_goals
      go_ret
      exact ⟨by simp [formedB, *], (Below.refl _ _).alloc (Nat.le_refl _) _⟩
  by_cases h3 : op = 3
  · subst h3
    go_enter Tryz.func123, Tryz.ntmps123
    go_wp2_with (first | (go_at_call 110; refine (within_any _ _ _ _).mono ?_; rintro e w' ⟨rfl, rfl⟩) | (go_at_call 138; refine (isReg_any _ _).mono ?_; rintro e w' ⟨rfl, rfl⟩))
    all_goals
      go_ret
      exact ⟨by simp [formedB, *], (Below.refl _ _).alloc (Nat.le_refl _) _⟩
  by_cases h4 : op = 4
  · subst h4
    go_enter Tryz.func123, Tryz.ntmps123
    go_wp2_with (first | (go_at_call 110; refine (within_any _ _ _ _).mono ?_; rintro e w' ⟨rfl, rfl⟩) | (go_at_call 138; refine (isReg_any _ _).mono ?_; rintro e w' ⟨rfl, rfl⟩))
    all_goals
      go_ret
      exact ⟨by simp [formedB, *], (Below.refl _ _).alloc (Nat.le_refl _) _⟩
  by_cases h5 : op = 5
  · subst h5
    go_enter Tryz.func123, Tryz.ntmps123
    go_wp2_with (first | (go_at_call 110; refine (within_any _ _ _ _).mono ?_; rintro e w' ⟨rfl, rfl⟩) | (go_at_call 138; refine (isReg_any _ _).mono ?_; rintro e w' ⟨rfl, rfl⟩))
    all_goals
      go_ret
      exact ⟨by simp [formedB, *], (Below.refl _ _).alloc (Nat.le_refl _) _⟩
  by_cases h6 : op = 6
  · subst h6
    go_enter Tryz.func123, Tryz.ntmps123
    go_wp2_with (first | (go_at_call 110; refine (within_any _ _ _ _).mono ?_; rintro e w' ⟨rfl, rfl⟩) | (go_at_call 138; refine (isReg_any _ _).mono ?_; rintro e w' ⟨rfl, rfl⟩))
    all_goals
      go_ret
      exact ⟨by simp [formedB, *], (Below.refl _ _).alloc (Nat.le_refl _) _⟩
  by_cases h7 : op = 7
  · subst h7
    go_enter Tryz.func123, Tryz.ntmps123
    go_wp2_with (first | (go_at_call 110; refine (within_any _ _ _ _).mono ?_; rintro e w' ⟨rfl, rfl⟩) | (go_at_call 138; refine (isReg_any _ _).mono ?_; rintro e w' ⟨rfl, rfl⟩))
    all_goals
      go_ret
      exact ⟨by simp [formedB, *], (Below.refl _ _).alloc (Nat.le_refl _) _⟩
  by_cases h8 : op = 8
  · subst h8
    go_enter Tryz.func123, Tryz.ntmps123
    go_wp2_with (first | (go_at_call 110; refine (within_any _ _ _ _).mono ?_; rintro e w' ⟨rfl, rfl⟩) | (go_at_call 138; refine (isReg_any _ _).mono ?_; rintro e w' ⟨rfl, rfl⟩))
    all_goals
      go_ret
      exact ⟨by simp [formedB, *], (Below.refl _ _).alloc (Nat.le_refl _) _⟩
  have HF : Hid (formedB ⟨op, a, b, c⟩ n = false) := by
    show formedB _ _ = false
    simp [formedB, h0, h1, h2, h3, h4, h5, h6, h7, h8]
  have g0 : (op == 0) = false := by simpa using h0
  have g1 : (op == 1) = false := by simpa using h1
  have g2 : (op == 2) = false := by simpa using h2
  have g3 : (op == 3) = false := by simpa using h3
  have g4 : (op == 4) = false := by simpa using h4
  have g5 : (op == 5) = false := by simpa using h5
  have g6 : (op == 6) = false := by simpa using h6
  have g7 : (op == 7) = false := by simpa using h7
  have g8 : (op == 8) = false := by simpa using h8
  clear h0 h1 h2 h3 h4 h5 h6 h7 h8
  go_enter Tryz.func123, Tryz.ntmps123
  go_wp2
  go_ret
  exact ⟨by rw [HF.out]; rfl, (Below.refl _ _).alloc (Nat.le_refl _) _⟩

end Go.Proofs.YtejadojilncbjabGreat

namespace Go.Proofs.YtejadojilncbjabGreat
open Go.RowKit
set_option linter.unusedVariables false
attribute [local go_sem ↓] Go.wp_at_zero Go.wp_at_succ

theorem Tryz.info82 : (Tryz.prog.info? 82).map (fun i => (i.zero, i.size, i.bytes)) = some (some (.agg #[.int .i64 0, .int .i64 0, .int .i64 0, .int .i64 0, .int .i64 0, .int .i64 0, .int .i64 0, .slice none 0 0]), 8, 80) := by kernel_rfl

end Go.Proofs.YtejadojilncbjabGreat

namespace Go.Proofs.YtejadojilncbjabGreat
open Go.RowKit
set_option linter.unusedVariables false

/-- What a call leaves as it was: every block below B but two; every block of another type than those listed. -/
structure Kp (chg : List TypeId) (B p eb : Nat) (w w' : World) : Prop where
  os : w'.os = w.os
  tape : w'.tape = w.tape
  output : w'.output = w.output
  size : w.heap.size ≤ w'.heap.size
  low : ∀ k, k < B → k ≠ p → k ≠ eb → w'.heap[k]? = w.heap[k]?
  tag : ∀ (k : Nat) (t : TypeId) (cs : Array Value) (fr : Nat × Nat), w.heap[k]? = some (.cells cs t fr) → t ∉ chg → w'.heap[k]? = some (.cells cs t fr)

theorem Kp.trans {chg : List TypeId} {B p eb : Nat} {a b c : World} (h : Kp chg B p eb a b) (k : Kp chg B p eb b c) : Kp chg B p eb a c :=
  ⟨k.os.trans h.os, k.tape.trans h.tape, k.output.trans h.output, Nat.le_trans h.size k.size, fun i hi h1 h2 => (k.low i hi h1 h2).trans (h.low i hi h1 h2), fun i t cs fr hi ht => k.tag i t cs fr (h.tag i t cs fr hi ht) ht⟩
theorem Kp.wide {chg chg' : List TypeId} {B p eb : Nat} {w w' : World} (h : Kp chg B p eb w w') (hs : ∀ t ∈ chg, t ∈ chg') : Kp chg' B p eb w w' :=
  ⟨h.os, h.tape, h.output, h.size, h.low, fun i t cs fr hi ht => h.tag i t cs fr hi (fun hm => ht (hs t hm))⟩
theorem lt_of_heap {w : World} {k : Nat} {o : Obj} (h : w.heap[k]? = some o) : k < w.heap.size := by
  rcases Nat.lt_or_ge k w.heap.size with h' | h'
  · exact h'
  · rw [Array.getElem?_eq_none h'] at h; cases h
theorem Kp.below {chg : List TypeId} {B p eb : Nat} {w w' : World} (h : Below w.heap.size w w') (hB : B ≤ w.heap.size) : Kp chg B p eb w w' :=
  ⟨h.os, h.tape, h.output, h.size, fun k hk _ _ => h.block k (by omega), fun k t cs fr hk _ => (h.block k (lt_of_heap hk)).trans hk⟩
theorem Kp.only {chg : List TypeId} {B p eb q : Nat} {w w' : World} {t : TypeId} {cs : Array Value} (h : Only q w w') (hB : B ≤ w.heap.size) (hq : Blk w q t cs) (hc : t ∈ chg) (hl : q = p ∨ q = eb ∨ B ≤ q) : Kp chg B p eb w w' :=
  ⟨h.os, h.tape, h.output, h.size, fun k hk h1 h2 => h.block k (by omega) (by omega), fun k u ds fr hk hu => (h.block k (lt_of_heap hk) (fun e => by
    subst e
    have : w.heap[k]? = some (.cells cs t (0, 0)) := hq
    rw [this] at hk
    simp at hk
    exact hu (hk.2.1 ▸ hc))).trans hk⟩
/-- Behind a store into, or an append onto, a row of the call's own. -/
theorem Kp.grown {chg : List TypeId} {B p eb : Nat} {w w' : World} {e : TypeId} {size n : Nat} {v : Value} {xs : List Value} (h : w.grownBy w' v.ownBlock) (hB : B ≤ w.heap.size) (hv : w.ownsRow B e size v n xs) (hc : e ∈ chg) : Kp chg B p eb w w' := by
  have hlt := hv.lt
  refine ⟨h.os, h.tape, h.output, h.size, fun k hk h1 h2 => h.block k (by omega) (fun e' => by have := (hlt k e'.symm).1; omega), fun k u ds fr hk hu => ?_⟩
  refine (h.block k (lt_of_heap hk) (fun e' => ?_)).trans hk
  rcases hv.2 with ⟨rfl, _⟩ | ⟨g, cap, cur, rfl, _, hg, _⟩
  · simp [Value.ownBlock] at e'
  · simp [Value.ownBlock] at e'
    subst e'
    rw [hg] at hk
    simp at hk
    exact hu (hk.2.1 ▸ hc)
theorem Blk.keep {chg : List TypeId} {B p eb k : Nat} {w w' : World} {t : TypeId} {cs : Array Value} (h : Blk w k t cs) (hk : Kp chg B p eb w w') (ht : t ∉ chg) : Blk w' k t cs := hk.tag k t cs (0, 0) h ht
theorem ownsRow_keep {chg : List TypeId} {B p eb base : Nat} {w w' : World} {e : TypeId} {size n : Nat} {v : Value} {xs : List Value} (h : w.ownsRow base e size v n xs) (hk : Kp chg B p eb w w') (ht : e ∉ chg) : w'.ownsRow base e size v n xs := by
  refine ⟨h.1, ?_⟩
  rcases h.2 with hn | ⟨g, cap, cur, rfl, hb, hg, rest⟩
  · exact .inl hn
  · exact .inr ⟨g, cap, cur, rfl, hb, hk.tag _ _ _ _ hg ht, rest⟩

def noteCells (n : NoteD) : List Value := [.int .i64 n.op, .int .i64 n.addr, .int .i64 n.val]
def attCells (a : AttD) (nv : Value) : List Value := [.int .i64 a.thread, .int .i64 a.job, .int .i64 a.start, .int .i64 a.fin, .int .i64 a.valid, .int .i64 a.stamp, .int .i64 a.fate, nv]
def resCells (r : ResD) : List Value := [.int .i64 r.fate, .int .i64 r.r0, .int .i64 r.r1, .int .i64 r.r2, .int .i64 r.r3]

def entCells (e : EntD) : List Value := [.int .i64 e.what, .int .i64 e.val]

end Go.Proofs.YtejadojilncbjabGreat

namespace Go.Proofs.YtejadojilncbjabGreat
open Go.RowKit
set_option linter.unusedVariables false

theorem flat_at {α : Type} {f : α → List Value} {n : Nat} (hf : ∀ a, (f a).length = n) : ∀ (l : List α) (i j : Nat), j < n → (l.flatMap f)[i * n + j]? = (l[i]?).bind fun a => (f a)[j]?
  | [], i, j, hj => by simp
  | a :: l, 0, j, hj => by
    rw [List.flatMap_cons, Nat.zero_mul, Nat.zero_add, List.getElem?_append_left (by rw [hf]; exact hj)]
    simp
  | a :: l, i + 1, j, hj => by
    rw [List.flatMap_cons, List.getElem?_append_right (by rw [hf, Nat.add_mul]; omega), hf, show (i + 1) * n + j - n = i * n + j from by rw [Nat.add_mul]; omega, flat_at hf l i j hj]
    simp
theorem flat_len {α : Type} {f : α → List Value} {n : Nat} (hf : ∀ a, (f a).length = n) : ∀ (l : List α), (l.flatMap f).length = l.length * n
  | [] => by simp
  | a :: l => by rw [List.flatMap_cons, List.length_append, hf, flat_len hf l, List.length_cons, Nat.add_mul]; omega

/-- Entries that lie behind a slice's address. -/
def EntsIn (w : World) (a : Option Addr) (es : List EntD) : Prop :=
  ∀ i, i < es.length → ∃ b, a = some ⟨b, 0, none⟩ ∧ w.cell? ⟨b, i * 2, none⟩ = some (.int .i64 (es.getD i ⟨0, 0⟩).what) ∧ w.cell? ⟨b, i * 2 + 1, none⟩ = some (.int .i64 (es.getD i ⟨0, 0⟩).val) ∧
    w.frozen? ⟨b, i * 2 + 1, none⟩ = false

theorem own_block {w : World} {base : Nat} {e : TypeId} {size n : Nat} {v : Value} {xs : List Value} (h : w.ownsRow base e size v n xs) (hn : 0 < n) :
    ∃ g cap cur, v = .slice (some ⟨g, 0, none⟩) n cap ∧ base ≤ g ∧ Blk w g e cur ∧ n ≤ cap ∧ cap ≤ maxLen ∧ cur.size = cap * size ∧ cur.toList.take (n * size) = xs := by
  rcases h.2 with ⟨_, h0⟩ | ⟨g, cap, cur, hv, hb, hg, r⟩
  · omega
  · exact ⟨g, cap, cur, hv, hb, hg, r⟩

theorem entIdx_none {es : List EntD} {what : Int} (h : ∀ j, j < es.length → ((es.getD j ⟨0, 0⟩).what == what) = false) : entIdx es what = none := by
  unfold entIdx
  rw [List.findIdx?_eq_none_iff]
  intro x hx
  obtain ⟨j, hj, rfl⟩ := List.mem_iff_getElem.1 hx
  simpa [List.getD, List.getElem?_eq_getElem hj] using h j hj

theorem entIdx_some {es : List EntD} {what : Int} {k : Nat} (hk : k < es.length) (h : ∀ j, j < k → ((es.getD j ⟨0, 0⟩).what == what) = false) (h1 : ((es.getD k ⟨0, 0⟩).what == what) = true) : entIdx es what = some k := by
  unfold entIdx
  rw [List.findIdx?_eq_some_iff_getElem]
  refine ⟨hk, by simpa [List.getD, List.getElem?_eq_getElem hk] using h1, fun j hj => ?_⟩
  have := h j hj
  simpa [List.getD, List.getElem?_eq_getElem (show j < es.length by omega)] using this

/-- A try's held stripes. -/
def NumsIn (w : World) (a : Option Addr) (zs : List Int) : Prop := ∀ i, i < zs.length → ∃ b, a = some ⟨b, 0, none⟩ ∧ w.cell? ⟨b, i, none⟩ = some (.int .i64 (zs.getD i 0))

end Go.Proofs.YtejadojilncbjabGreat

namespace Go.Proofs.YtejadojilncbjabGreat
open Go.RowKit
set_option linter.unusedVariables false

theorem own_set {w : World} {base : Nat} {e : TypeId} {size n g cap i : Nat} {xs : List Value} (h : w.ownsRow base e size (.slice (some ⟨g, 0, none⟩) n cap) n xs) (hi : i < n * size) (u : Value) :
    (w.setCell ⟨g, i, none⟩ u).ownsRow base e size (.slice (some ⟨g, 0, none⟩) n cap) n (xs.set i u) := by
  refine ⟨by simpa using h.1, ?_⟩
  rcases h.2 with ⟨h0, _⟩ | ⟨g', cap', cur, hv, hb, hg, r1, r2, r3, r4⟩
  · cases h0
  · simp at hv
    obtain ⟨rfl, rfl⟩ := hv
    have hg' : Blk w g e cur := hg
    refine .inr ⟨g, cap, cur.setIfInBounds i u, rfl, hb, hg'.set, r1, r2, by simpa using r3, ?_⟩
    rw [Array.toList_setIfInBounds, List.take_set, r4]

end Go.Proofs.YtejadojilncbjabGreat

namespace Go.Proofs.YtejadojilncbjabGreat
open Go.RowKit
set_option linter.unusedVariables false

theorem Tryz.info3 : (Tryz.prog.info? 3).map (fun i => (i.zero, i.size, i.bytes)) = some (some (.int .i64 0), 1, 8) := by kernel_rfl

section
variable {B p eb xb : Nat} {w w0 w1 : World} {x : TS} {ca ra wa ha : Option Addr} {cc rc wc hc g cap : Nat}

end

/-- Enough rounds for a loop that asks in each. -/
def enough (E : Env) (s : LS) (n : Nat) : Prop := 1 ≤ n ∧ (s.over = false → E.seen.length - s.pos + 2 ≤ n)
end Go.Proofs.YtejadojilncbjabGreat

namespace Go.Proofs.YtejadojilncbjabGreat
open Go.RowKit
set_option linter.unusedVariables false
attribute [local go_sem ↓] Go.wp_at_zero Go.wp_at_succ

theorem wrapF (n : Int) (h1 : -1152921504606846976 ≤ n) (h2 : n ≤ 1152921504606846976) : IntKind.i64.wrap n = n := by rw [IntKind.wrap_i64]; omega

end Go.Proofs.YtejadojilncbjabGreat
