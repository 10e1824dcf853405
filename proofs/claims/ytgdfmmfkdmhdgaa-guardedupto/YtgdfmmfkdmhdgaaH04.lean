import Derived.Test.YtgdfmmfkdmhdgaaH03
import Derived.Test.YtgdfmmfkdmhdgaaH02
namespace Go.Proofs.Ytgdfmmfkdmhdgaa
open Go.RowKit
set_option linter.unusedVariables false
attribute [local go_sem ↓] Go.wp_at_zero Go.wp_at_succ

/-- The program's machine as a part of a greater block, from place z on. -/
def MAt (w : World) (p z : Nat) (T : TypeId) (A B : List Value) (m : MS) : Prop := A.length = z ∧ Blk w p T (A ++ ((mArr m).toList ++ B)).toArray

theorem mArr_size (m : MS) : (mArr m).toList.length = 7 := rfl
theorem MAt.cellAt {w : World} {p z : Nat} {T : TypeId} {A B : List Value} {m : MS} (h : MAt w p z T A B m) (i : Nat) (hi : i < 7) : w.cell? ⟨p, z + i, none⟩ = (mArr m)[i]? := by
  rw [h.2.cell, List.getElem?_toArray, ← h.1, List.getElem?_append_right (by omega), Nat.add_sub_cancel_left, List.getElem?_append_left (by rw [mArr_size]; exact hi)]
  simp
theorem MAt.c4 {w : World} {p z : Nat} {T : TypeId} {A B : List Value} {m : MS} (h : MAt w p z T A B m) : w.cell? ⟨p, z + 4, none⟩ = some (.int .i64 m.place) := h.cellAt 4 (by omega)
theorem MAt.c5 {w : World} {p z : Nat} {T : TypeId} {A B : List Value} {m : MS} (h : MAt w p z T A B m) : w.cell? ⟨p, z + 5, none⟩ = some (.int .i64 m.begun) := h.cellAt 5 (by omega)
theorem MAt.c6 {w : World} {p z : Nat} {T : TypeId} {A B : List Value} {m : MS} (h : MAt w p z T A B m) : w.cell? ⟨p, z + 6, none⟩ = some (.int .i64 m.into) := h.cellAt 6 (by omega)
theorem MAt.frozen {w : World} {p z : Nat} {T : TypeId} {A B : List Value} {m : MS} (h : MAt w p z T A B m) : ∀ i, w.frozen? ⟨p, i, none⟩ = false := h.2.frozen
theorem MAt.lt {w : World} {p z : Nat} {T : TypeId} {A B : List Value} {m : MS} (h : MAt w p z T A B m) : p < w.heap.size := h.2.lt
theorem MAt.alloc {w : World} {p z : Nat} {T : TypeId} {A B : List Value} {m : MS} (h : MAt w p z T A B m) (o : Obj) : MAt (w.alloc o) p z T A B m := ⟨h.1, h.2.alloc o⟩
theorem MAt.below {w w' : World} {p z n : Nat} {T : TypeId} {A B : List Value} {m : MS} (h : MAt w p z T A B m) (hb : Below n w w') (hp : p < n) : MAt w' p z T A B m := ⟨h.1, h.2.below hb hp⟩
theorem MAt.only {w w' : World} {p z q : Nat} {T : TypeId} {A B : List Value} {m : MS} (h : MAt w p z T A B m) (hb : Only q w w') (hp : p ≠ q) : MAt w' p z T A B m := ⟨h.1, h.2.only hb hp⟩
theorem MAt.drewN {w : World} {p z : Nat} {T : TypeId} {A B : List Value} {m : MS} (h : MAt w p z T A B m) (n : Nat) : MAt (w.drewN n) p z T A B m := h
theorem MAt.setAt {w : World} {p z : Nat} {T : TypeId} {A B : List Value} {m m' : MS} (h : MAt w p z T A B m) (i : Nat) (hi : i < 7) (v : Value) (e : (mArr m).toList.set i v = (mArr m').toList) : MAt (w.setCell ⟨p, z + i, none⟩ v) p z T A B m' := by
  refine ⟨h.1, h.2.set.congr ?_⟩
  rw [List.setIfInBounds_toArray, ← h.1, List.set_append_right _ _ (by omega), Nat.add_sub_cancel_left, List.set_append_left _ _ (by rw [mArr_size]; exact hi), e]
theorem MAt.place {w : World} {p z : Nat} {T : TypeId} {A B : List Value} {m : MS} (h : MAt w p z T A B m) (k : Nat) : MAt (w.setCell ⟨p, z + 4, none⟩ (.int .i64 (k : Int))) p z T A B { m with place := k } := h.setAt 4 (by omega) _ rfl
theorem MAt.begun {w : World} {p z : Nat} {T : TypeId} {A B : List Value} {m : MS} (h : MAt w p z T A B m) (k : Nat) : MAt (w.setCell ⟨p, z + 5, none⟩ (.int .i64 (k : Int))) p z T A B { m with begun := k } := h.setAt 5 (by omega) _ rfl
theorem MAt.into {w : World} {p z : Nat} {T : TypeId} {A B : List Value} {m : MS} (h : MAt w p z T A B m) (k : Int) : MAt (w.setCell ⟨p, z + 6, none⟩ (.int .i64 k)) p z T A B { m with into := k } := h.setAt 6 (by omega) _ rfl
theorem z_mArr_reg {w : World} {p z : Nat} {T : TypeId} {A B : List Value} {m : MS} (h : MAt w p z T A B m) (k : Nat) (hk : k < 4) : w.cell? ⟨p, z + k, none⟩ = some (.int .i64 (m.regs.getD k 0)) := by
  rw [h.cellAt k (by omega)]
  have : k = 0 ∨ k = 1 ∨ k = 2 ∨ k = 3 := by omega
  rcases this with rfl | rfl | rfl | rfl <;> rfl
theorem z_mArr_set {w : World} {p z : Nat} {T : TypeId} {A B : List Value} {m : MS} (h : MAt w p z T A B m) (hl : m.regs.length = 4) (k : Nat) (hk : k < 4) (v : Int) : MAt (w.setCell ⟨p, z + k, none⟩ (.int .i64 v)) p z T A B { m with regs := m.regs.set k v } := by
  refine h.setAt k (by omega) _ ?_
  obtain ⟨regs, place, begun, into⟩ := m
  simp only at hl
  obtain ⟨a, b, c, d, rfl⟩ := list4 hl
  have : k = 0 ∨ k = 1 ∨ k = 2 ∨ k = 3 := by omega
  rcases this with rfl | rfl | rfl | rfl <;> rfl

set_option maxHeartbeats 2000000 in
theorem z_give_any (z : Nat) (T : TypeId) (A B : List Value) (p ki : Nat) (m : MS) (v : Int) (w : World) (hb : MAt w p z T A B m) (hl : m.regs.length = 4) (hi : m.into = (ki : Int)) (hk : ki < 4) :
    Calls Try.prog 47 #[.pointer (some ⟨p, z, none⟩), .int .i64 v] w fun e w' => e = .returned (.tuple #[]) ∧ MAt w' p z T A B { m with regs := m.regs.set ki v } ∧ Only p w w' := by
  have HB : Hid (MAt w p z T A B m) := hb
  have h6 : w.cell? ⟨p, z + 6, none⟩ = some (.int .i64 (ki : Int)) := by rw [← hi]; exact hb.c6
  have hr := z_mArr_reg hb ki hk
  have hf := hb.frozen (z + ki)
  have hk0 : (0 : Int) ≤ (ki : Int) := by omega
  have hk1 : (ki : Int) < 4 := by omega
  clear hb hi
  go_enter Try.func47, Try.ntmps47
  go_wp2
  go_region
  all_goals
    go_wp2
    go_end0
    refine ⟨rfl, ?_, ?_⟩
    · exact z_mArr_set (show MAt w.drew p z T A B m from HB.out) hl ki hk v
    · exact (Only.refl _ _).drew.set

set_option maxHeartbeats 4000000 in
theorem z_compute_set (z : Nat) (T : TypeId) (A B : List Value) (p ka : Nat) (m : MS) (b c : Int) (w : World) (hb : MAt w p z T A B m) (hl : m.regs.length = 4) (hk : ka < 4) :
    Calls Try.prog 58 #[.pointer (some ⟨p, z, none⟩), .agg #[.int .i64 2, .int .i64 (ka : Int), .int .i64 b, .int .i64 c]] w fun e w' => e = .returned (.tuple #[]) ∧ MAt w' p z T A B { m with regs := m.regs.set ka b } ∧ Only p w w' := by
  have HB : Hid (MAt w p z T A B m) := hb
  have hr := z_mArr_reg hb ka hk
  have hf := hb.frozen (z + ka)
  have hlt := hb.lt
  have hk0 : (0 : Int) ≤ (ka : Int) := by omega
  have hk1 : (ka : Int) < 4 := by omega
  clear hb
  go_enter Try.func58, Try.ntmps58
  go_wp2_with fail
  go_region
  all_goals
    go_wp2
    go_end0
    refine ⟨rfl, ?_, ?_⟩
    · exact (z_mArr_set HB.out hl ka hk b).alloc _
    · exact (((Only.refl _ _).set).trans (Only.below ((Below.refl _ _).alloc (Nat.le_refl _) _))).drew

set_option maxHeartbeats 4000000 in
theorem z_compute_jump (z : Nat) (T : TypeId) (A B : List Value) (p kc : Nat) (m : MS) (a b : Int) (w : World) (hb : MAt w p z T A B m) :
    Calls Try.prog 58 #[.pointer (some ⟨p, z, none⟩), .agg #[.int .i64 5, .int .i64 a, .int .i64 b, .int .i64 (kc : Int)]] w fun e w' => e = .returned (.tuple #[]) ∧ MAt w' p z T A B { m with place := kc } ∧ Only p w w' := by
  have HB : Hid (MAt w p z T A B m) := hb
  have h4 : w.cell? ⟨p, z + 4, none⟩ = some (.int .i64 m.place) := hb.c4
  have hf := hb.frozen (z + 4)
  have hlt := hb.lt
  clear hb
  go_enter Try.func58, Try.ntmps58
  go_wp2
  go_end0
  refine ⟨rfl, ?_, ?_⟩
  · exact ((HB.out).place kc).alloc _
  · exact ((Only.refl _ _).set).trans (Only.below ((Below.refl _ _).alloc (Nat.le_refl _) _))

set_option maxHeartbeats 4000000 in
theorem z_compute_less (z : Nat) (T : TypeId) (A B : List Value) (p ka kb kc : Nat) (m : MS) (w : World) (hb : MAt w p z T A B m) (hka : ka < 4) (hkb : kb < 4) :
    Calls Try.prog 58 #[.pointer (some ⟨p, z, none⟩), .agg #[.int .i64 6, .int .i64 (ka : Int), .int .i64 (kb : Int), .int .i64 (kc : Int)]] w fun e w' => e = .returned (.tuple #[]) ∧ MAt w' p z T A B (if m.regs.getD ka 0 < m.regs.getD kb 0 then { m with place := kc } else m) ∧ Only p w w' := by
  have HB : Hid (MAt w p z T A B m) := hb
  have h4 : w.cell? ⟨p, z + 4, none⟩ = some (.int .i64 m.place) := hb.c4
  have hf := hb.frozen (z + 4)
  have hlt := hb.lt
  have hra := z_mArr_reg hb ka hka
  have hrb := z_mArr_reg hb kb hkb
  have hk0 : (0 : Int) ≤ (ka : Int) := by omega
  have hk1 : (ka : Int) < 4 := by omega
  have hk2 : (0 : Int) ≤ (kb : Int) := by omega
  have hk3 : (kb : Int) < 4 := by omega
  clear hb
  by_cases hlt2 : m.regs.getD ka 0 < m.regs.getD kb 0
  · rw [if_pos hlt2]
    generalize m.regs.getD ka 0 = va at *
    generalize m.regs.getD kb 0 = vb at *
    go_enter Try.func58, Try.ntmps58
    go_wp2_with fail
    go_quiet (fail)
    go_wp2
    go_end0
    refine ⟨rfl, ?_, ?_⟩
    · exact (((HB.out).alloc _).drewN nq).place kc
    · exact ((Only.below ((Below.refl _ _).alloc (Nat.le_refl _) _)).drewN nq).set
  · rw [if_neg hlt2]
    generalize m.regs.getD ka 0 = va at *
    generalize m.regs.getD kb 0 = vb at *
    go_enter Try.func58, Try.ntmps58
    go_wp2_with fail
    go_quiet (fail)
    go_wp2
    go_end0
    refine ⟨rfl, ?_, ?_⟩
    · exact ((HB.out).alloc _).drewN nq
    · exact (Only.below ((Below.refl _ _).alloc (Nat.le_refl _) _)).drewN nq

end Go.Proofs.Ytgdfmmfkdmhdgaa

namespace Go.Proofs.Ytgdfmmfkdmhdgaa
open Go.RowKit
set_option linter.unusedVariables false

/-! A part of a block: a struct within a struct, or a row of a slice of structs. -/

/-- From place z on lies L; ahead of it A, behind it B. -/
def Seg (w : World) (p z : Nat) (T : TypeId) (A B L : List Value) : Prop := A.length = z ∧ Blk w p T (A ++ (L ++ B)).toArray

theorem Seg.cell {w : World} {p z : Nat} {T : TypeId} {A B L : List Value} (h : Seg w p z T A B L) (i : Nat) (hi : i < L.length) : w.cell? ⟨p, z + i, none⟩ = L[i]? := by
  rw [h.2.cell, List.getElem?_toArray, ← h.1, List.getElem?_append_right (by omega), Nat.add_sub_cancel_left, List.getElem?_append_left hi]
theorem Seg.frozen {w : World} {p z : Nat} {T : TypeId} {A B L : List Value} (h : Seg w p z T A B L) : ∀ i, w.frozen? ⟨p, i, none⟩ = false := h.2.frozen
theorem Seg.lt {w : World} {p z : Nat} {T : TypeId} {A B L : List Value} (h : Seg w p z T A B L) : p < w.heap.size := h.2.lt
theorem Seg.alloc {w : World} {p z : Nat} {T : TypeId} {A B L : List Value} (h : Seg w p z T A B L) (o : Obj) : Seg (w.alloc o) p z T A B L := ⟨h.1, h.2.alloc o⟩
theorem Seg.below {w w' : World} {p z : Nat} {T : TypeId} {A B L : List Value} {n : Nat} (h : Seg w p z T A B L) (hb : Below n w w') (hp : p < n) : Seg w' p z T A B L := ⟨h.1, h.2.below hb hp⟩
theorem Seg.only {w w' : World} {p z : Nat} {T : TypeId} {A B L : List Value} {q : Nat} (h : Seg w p z T A B L) (hb : Only q w w') (hp : p ≠ q) : Seg w' p z T A B L := ⟨h.1, h.2.only hb hp⟩
theorem Seg.drewN {w : World} {p z : Nat} {T : TypeId} {A B L : List Value} (h : Seg w p z T A B L) (n : Nat) : Seg (w.drewN n) p z T A B L := h
theorem Seg.set {w : World} {p z : Nat} {T : TypeId} {A B L : List Value} (h : Seg w p z T A B L) (i : Nat) (hi : i < L.length) (v : Value) : Seg (w.setCell ⟨p, z + i, none⟩ v) p z T A B (L.set i v) := by
  refine ⟨h.1, h.2.set.congr ?_⟩
  rw [List.setIfInBounds_toArray, ← h.1, List.set_append_right _ _ (by omega), Nat.add_sub_cancel_left, List.set_append_left _ _ hi]
theorem Seg.congr {w : World} {p z : Nat} {T : TypeId} {A B L : List Value} {L' : List Value} (h : Seg w p z T A B L) (e : L = L') : Seg w p z T A B L' := e ▸ h
/-- A part of the part, and back. -/
theorem Seg.part {w : World} {p z : Nat} {T : TypeId} {A B L : List Value} {L1 L2 L3 : List Value} (h : Seg w p z T A B (L1 ++ (L2 ++ L3))) (k : Nat) (hk : L1.length = k) : Seg w p (z + k) T (A ++ L1) (L3 ++ B) L2 :=
  ⟨by rw [List.length_append, h.1, hk], h.2.congr (by simp)⟩
theorem Seg.whole {w : World} {p z : Nat} {T : TypeId} {A B L : List Value} {L1 L2 L3 : List Value} {k : Nat} (h : Seg w p (z + k) T (A ++ L1) (L3 ++ B) L2) (hz : A.length = z) : Seg w p z T A B (L1 ++ (L2 ++ L3)) :=
  ⟨hz, h.2.congr (by simp)⟩
theorem Seg.mach {w : World} {p z : Nat} {T : TypeId} {A B L : List Value} {m : MS} (h : Seg w p z T A B (mArr m).toList) : MAt w p z T A B m := h
theorem MAt.seg {w : World} {p z : Nat} {T : TypeId} {A B L : List Value} {m : MS} (h : MAt w p z T A B m) : Seg w p z T A B (mArr m).toList := h
theorem Blk.seg {w : World} {p z : Nat} {T : TypeId} {A B L : List Value} {cs : List Value} (h : Blk w p T cs.toArray) : Seg w p 0 T [] [] cs := ⟨rfl, h.congr (by simp)⟩
theorem Seg.blk {w : World} {p z : Nat} {T : TypeId} {A B L : List Value} (h : Seg w p 0 T [] [] L) : Blk w p T L.toArray := h.2.congr (by simp)
/-! Rows of one length. -/

theorem rows_len {n : Nat} : ∀ {R : List (List Value)}, (∀ L ∈ R, L.length = n) → R.flatten.length = R.length * n
  | [], _ => by simp
  | L :: R, h => by
    rw [List.flatten_cons, List.length_append, h L (List.mem_cons_self ..), rows_len (fun L' hL => h L' (List.mem_cons_of_mem _ hL)), List.length_cons, Nat.succ_mul]
    omega

theorem rows_split {R : List (List Value)} {i : Nat} (hi : i < R.length) : R.flatten = (R.take i).flatten ++ (R[i] ++ (R.drop (i + 1)).flatten) := by
  have h : R = R.take i ++ (R[i] :: R.drop (i + 1)) := by
    rw [← List.drop_eq_getElem_cons hi, List.take_append_drop]
  have e : R.flatten = (R.take i ++ (R[i] :: R.drop (i + 1))).flatten := congrArg List.flatten h
  rw [e, List.flatten_append, List.flatten_cons]

/-- Row i of a block of rows of n cells, and back with the row as it is then. -/
theorem Blk.row {w : World} {p n i : Nat} {T : TypeId} {R : List (List Value)} (h : Blk w p T R.flatten.toArray) (hn : ∀ L ∈ R, L.length = n) (hi : i < R.length) : Seg w p (i * n) T (R.take i).flatten (R.drop (i + 1)).flatten R[i] := by
  refine ⟨?_, h.congr (by rw [rows_split hi])⟩
  rw [rows_len (n := n) (fun L hL => hn L (List.mem_of_mem_take hL)), List.length_take, Nat.min_eq_left (by omega)]
theorem Seg.rows {w : World} {p z i : Nat} {T : TypeId} {R : List (List Value)} {L : List Value} (h : Seg w p z T (R.take i).flatten (R.drop (i + 1)).flatten L) (hi : i < R.length) : Blk w p T (R.set i L).flatten.toArray := by
  refine h.2.congr ?_
  have hi2 : i < (R.set i L).length := by simpa using hi
  have e1 : (R.set i L).take i = R.take i := by
    apply List.ext_getElem?
    intro j
    by_cases hj : j < i
    · rw [List.getElem?_take_of_lt hj, List.getElem?_take_of_lt hj, List.getElem?_set_ne (by omega)]
    · rw [List.getElem?_eq_none (by simp; omega), List.getElem?_eq_none (by simp; omega)]
  have e2 : (R.set i L).drop (i + 1) = R.drop (i + 1) := by
    apply List.ext_getElem?
    intro j
    rw [List.getElem?_drop, List.getElem?_drop, List.getElem?_set_ne (by omega)]
  rw [rows_split hi2, e1, e2]
  simp

end Go.Proofs.Ytgdfmmfkdmhdgaa

namespace Go.Proofs.Ytgdfmmfkdmhdgaa
open Go.RowKit
set_option linter.unusedVariables false

/-- What a call leaves as it was: every block below B but two; every block of another type than those listed. -/
structure Kp (chg : List TypeId) (B p eb : Nat) (w w' : World) : Prop where
  os : w'.os = w.os
  tape : w'.tape = w.tape
  output : w'.output = w.output
  size : w.heap.size ≤ w'.heap.size
  low : ∀ k, k < B → k ≠ p → k ≠ eb → w'.heap[k]? = w.heap[k]?
  tag : ∀ (k : Nat) (t : TypeId) (cs : Array Value) (fr : Nat × Nat), w.heap[k]? = some (.cells cs t fr) → t ∉ chg → w'.heap[k]? = some (.cells cs t fr)

theorem Kp.refl (chg : List TypeId) (B p eb : Nat) (w : World) : Kp chg B p eb w w := ⟨rfl, rfl, rfl, Nat.le_refl _, fun _ _ _ _ => rfl, fun _ _ _ _ h _ => h⟩
theorem Kp.trans {chg : List TypeId} {B p eb : Nat} {a b c : World} (h : Kp chg B p eb a b) (k : Kp chg B p eb b c) : Kp chg B p eb a c :=
  ⟨k.os.trans h.os, k.tape.trans h.tape, k.output.trans h.output, Nat.le_trans h.size k.size, fun i hi h1 h2 => (k.low i hi h1 h2).trans (h.low i hi h1 h2), fun i t cs fr hi ht => k.tag i t cs fr (h.tag i t cs fr hi ht) ht⟩
theorem Kp.wide {chg chg' : List TypeId} {B p eb : Nat} {w w' : World} (h : Kp chg B p eb w w') (hs : ∀ t ∈ chg, t ∈ chg') : Kp chg' B p eb w w' :=
  ⟨h.os, h.tape, h.output, h.size, h.low, fun i t cs fr hi ht => h.tag i t cs fr hi (fun hm => ht (hs t hm))⟩
theorem lt_of_heap {w : World} {k : Nat} {o : Obj} (h : w.heap[k]? = some o) : k < w.heap.size := by
  rcases Nat.lt_or_ge k w.heap.size with h' | h'
  · exact h'
  · rw [Array.getElem?_eq_none h'] at h; cases h
theorem Kp.below {chg : List TypeId} {B p eb : Nat} {w w' : World} (h : Below w.heap.size w w') (hB : B ≤ w.heap.size) : Kp chg B p eb w w' :=
  ⟨h.os, h.tape, h.output, h.size, fun k hk _ _ => h.block k (by omega), fun k t cs fr hk _ => (h.block k (lt_of_heap hk)).trans hk⟩
theorem Kp.only {chg : List TypeId} {B p eb q : Nat} {w w' : World} {t : TypeId} {cs : Array Value} (h : Only q w w') (hB : B ≤ w.heap.size) (hq : Blk w q t cs) (hc : t ∈ chg) (hl : q = p ∨ q = eb ∨ B ≤ q) : Kp chg B p eb w w' :=
  ⟨h.os, h.tape, h.output, h.size, fun k hk h1 h2 => h.block k (by omega) (by omega), fun k u ds fr hk hu => (h.block k (lt_of_heap hk) (fun e => by
    subst e
    have : w.heap[k]? = some (.cells cs t (0, 0)) := hq
    rw [this] at hk
    simp at hk
    exact hu (hk.2.1 ▸ hc))).trans hk⟩
/-- Behind a store into, or an append onto, a row of the call's own. -/
theorem Kp.grown {chg : List TypeId} {B p eb : Nat} {w w' : World} {e : TypeId} {size n : Nat} {v : Value} {xs : List Value} (h : w.grownBy w' v.ownBlock) (hB : B ≤ w.heap.size) (hv : w.ownsRow B e size v n xs) (hc : e ∈ chg) : Kp chg B p eb w w' := by
  have hlt := hv.lt
  refine ⟨h.os, h.tape, h.output, h.size, fun k hk h1 h2 => h.block k (by omega) (fun e' => by have := (hlt k e'.symm).1; omega), fun k u ds fr hk hu => ?_⟩
  refine (h.block k (lt_of_heap hk) (fun e' => ?_)).trans hk
  rcases hv.2 with ⟨rfl, _⟩ | ⟨g, cap, cur, rfl, _, hg, _⟩
  · simp [Value.ownBlock] at e'
  · simp [Value.ownBlock] at e'
    subst e'
    rw [hg] at hk
    simp at hk
    exact hu (hk.2.1 ▸ hc)
theorem Kp.drewN {chg : List TypeId} {B p eb : Nat} {w w' : World} (h : Kp chg B p eb w w') (n : Nat) : Kp chg B p eb w (w'.drewN n) := ⟨h.os, h.tape, h.output, h.size, h.low, h.tag⟩
theorem Kp.drew {chg : List TypeId} {B p eb : Nat} {w w' : World} (h : Kp chg B p eb w w') : Kp chg B p eb w w'.drew := ⟨h.os, h.tape, h.output, h.size, h.low, h.tag⟩

theorem Blk.keep {chg : List TypeId} {B p eb k : Nat} {w w' : World} {t : TypeId} {cs : Array Value} (h : Blk w k t cs) (hk : Kp chg B p eb w w') (ht : t ∉ chg) : Blk w' k t cs := hk.tag k t cs (0, 0) h ht
theorem ownsRow_keep {chg : List TypeId} {B p eb base : Nat} {w w' : World} {e : TypeId} {size n : Nat} {v : Value} {xs : List Value} (h : w.ownsRow base e size v n xs) (hk : Kp chg B p eb w w') (ht : e ∉ chg) : w'.ownsRow base e size v n xs := by
  refine ⟨h.1, ?_⟩
  rcases h.2 with hn | ⟨g, cap, cur, rfl, hb, hg, rest⟩
  · exact .inl hn
  · exact .inr ⟨g, cap, cur, rfl, hb, hk.tag _ _ _ _ hg ht, rest⟩

/-- A slice that leads below B, and neither to p nor to eb. -/
def Far (B p eb : Nat) (a : Option Addr) : Prop := ∀ b off, a = some ⟨b, off, none⟩ → b < B ∧ b ≠ p ∧ b ≠ eb
/-- .. where the code has an instruction. -/
def FarC (B p eb : Nat) (a : Option Addr) (is : List InsD) : Prop := is ≠ [] → Far B p eb a

theorem cell_low {chg : List TypeId} {B p eb b o : Nat} {w w' : World} (hk : Kp chg B p eb w w') (h : b < B ∧ b ≠ p ∧ b ≠ eb) : w'.cell? ⟨b, o, none⟩ = w.cell? ⟨b, o, none⟩ :=
  World.cell?_of_block (w := w) (hk.low b h.1 h.2.1 h.2.2)

theorem Ints.keep {chg : List TypeId} {B p eb B' : Nat} {w w' : World} {a : Option Addr} {zs : List Int} (h : Ints w B' a zs) (hf : Far B p eb a) (hk : Kp chg B p eb w w') : Ints w' B' a zs := by
  intro i hi
  obtain ⟨b, off, ha, hlt, hc⟩ := h i hi
  exact ⟨b, off, ha, hlt, (cell_low hk (hf b off ha)).trans hc⟩
theorem CodeIn.keep {chg : List TypeId} {B p eb B' : Nat} {w w' : World} {a : Option Addr} {is : List InsD} (h : CodeIn w B' a is) (hf : FarC B p eb a is) (hk : Kp chg B p eb w w') : CodeIn w' B' a is := by
  intro i hi
  obtain ⟨b, off, ha, hlt, h0, h1, h2, h3⟩ := h i hi
  have hl := hf (fun e => by simp [e] at hi) b off ha
  exact ⟨b, off, ha, hlt, (cell_low hk hl).trans h0, (cell_low hk hl).trans h1, (cell_low hk hl).trans h2, (cell_low hk hl).trans h3⟩
theorem JobsIn.keep {chg : List TypeId} {B p eb B' : Nat} {w w' : World} {a : Option Addr} {js : List JobD} (h : JobsIn w B' a js) (hf : js ≠ [] → Far B p eb a) (hk : Kp chg B p eb w w') : JobsIn w' B' a js := by
  intro i hi
  obtain ⟨b, off, ha, hlt, h0, h1⟩ := h i hi
  have hl := hf (fun e => by simp [e] at hi) b off ha
  exact ⟨b, off, ha, hlt, (cell_low hk hl).trans h0, (cell_low hk hl).trans h1⟩

/-- What of a life lies still. -/
structure Stat (E : Env) (H : Hd) (B p eb : Nat) (w : World) : Prop where
  size : B ≤ w.heap.size
  seen : Ints w B H.sa E.seen
  seenF : Far B p eb H.sa
  draws : Ints w B H.da E.draws
  drawsF : Far B p eb H.da
  whens : Ints w B H.wa E.whens
  whensF : Far B p eb H.wa
  jobs : ∃ js : List JobD, js.length = E.jobs.length ∧ JobsIn w B H.ja js ∧ (∀ i, i < js.length → (jobAt js i).t = (E.jobs.getD i (0, [])).1 ∧ (jobAt js i).len = (E.jobs.getD i (0, [])).2.length ∧
    CodeIn w B (jobAt js i).a (E.jobs.getD i (0, [])).2 ∧ FarC B p eb (jobAt js i).a (E.jobs.getD i (0, [])).2)
  jobsF : E.jobs ≠ [] → Far B p eb H.ja

theorem Stat.keep {chg : List TypeId} {E : Env} {H : Hd} {B p eb : Nat} {w w' : World} (h : Stat E H B p eb w) (hk : Kp chg B p eb w w') : Stat E H B p eb w' := by
  obtain ⟨js, h1, h2, h3⟩ := h.jobs
  exact ⟨Nat.le_trans h.size hk.size, h.seen.keep h.seenF hk, h.seenF, h.draws.keep h.drawsF hk, h.drawsF, h.whens.keep h.whensF hk, h.whensF,
    ⟨js, h1, h2.keep (fun e => h.jobsF (fun e2 => e (List.eq_nil_of_length_eq_zero (by rw [h1, e2]; rfl)))) hk, fun i hi => ⟨(h3 i hi).1, (h3 i hi).2.1, (h3 i hi).2.2.1.keep (h3 i hi).2.2.2 hk, (h3 i hi).2.2.2⟩⟩, h.jobsF⟩

def noteCells (n : NoteD) : List Value := [.int .i64 n.op, .int .i64 n.addr, .int .i64 n.val]
def attCells (a : AttD) (nv : Value) : List Value := [.int .i64 a.thread, .int .i64 a.job, .int .i64 a.start, .int .i64 a.fin, .int .i64 a.valid, .int .i64 a.stamp, .int .i64 a.fate, nv]
def rowCells (L : List AttD) (nvs : List Value) : List Value := (L.zip nvs).flatMap fun q => attCells q.1 q.2

/-- The attempts in memory: a row of eight cells each, the notes of each in a row of their own. -/
def ListRep (w : World) (B : Nat) (la : Option Addr) (lc : Nat) (L : List AttD) : Prop :=
  ∃ nvs : List Value, nvs.length = L.length ∧ w.ownsRow B 133 8 (.slice la L.length lc) L.length (rowCells L nvs) ∧
    (∀ (i : Nat) (a : AttD) (nv : Value), L[i]? = some a → nvs[i]? = some nv → w.ownsRow B 159 3 nv a.notes.length (a.notes.flatMap noteCells)) ∧
    (∀ (i j : Nat) (u v : Value) (k : Nat), nvs[i]? = some u → nvs[j]? = some v → u.ownBlock = some k → v.ownBlock = some k → i = j)

theorem ListRep.keep {chg : List TypeId} {B p eb : Nat} {w w' : World} {la : Option Addr} {lc : Nat} {L : List AttD} (h : ListRep w B la lc L) (hk : Kp chg B p eb w w') (h1 : 133 ∉ chg) (h2 : 159 ∉ chg) : ListRep w' B la lc L := by
  obtain ⟨nvs, hl, ho, hn, hd⟩ := h
  exact ⟨nvs, hl, ownsRow_keep ho hk h1, fun i a nv hi hj => ownsRow_keep (hn i a nv hi hj) hk h2, hd⟩

def resCells (r : ResD) : List Value := [.int .i64 r.fate, .int .i64 r.r0, .int .i64 r.r1, .int .i64 r.r2, .int .i64 r.r3]

/-- A life in memory. -/
structure LifeR (E : Env) (H : Hd) (B p eb : Nat) (w : World) (s : LS) : Prop where
  stat : Stat E H B p eb w
  life : ∃ la lc, Blk w p 75 (lifeArr E H la lc s) ∧ ListRep w B la lc s.list
  ends : s.ends = [] ∨ (H.ea = some ⟨eb, 0, none⟩ ∧ Blk w eb 35 (s.ends.flatMap resCells).toArray)
  pB : p < B
  eB : eb < B
  pe : p ≠ eb

theorem LifeR.keep {chg : List TypeId} {E : Env} {H : Hd} {B p eb : Nat} {w w' : World} {s : LS} (h : LifeR E H B p eb w s) (hk : Kp chg B p eb w w') (h0 : 75 ∉ chg) (h1 : 133 ∉ chg) (h2 : 159 ∉ chg) (h3 : 35 ∉ chg) : LifeR E H B p eb w' s := by
  obtain ⟨la, lc, hb, hl⟩ := h.life
  exact ⟨h.stat.keep hk, ⟨la, lc, hb.keep hk h0, hl.keep hk h1 h2⟩, h.ends.imp id (fun ⟨a, b⟩ => ⟨a, b.keep hk h3⟩), h.pB, h.eB, h.pe⟩

def entCells (e : EntD) : List Value := [.int .i64 e.what, .int .i64 e.val]

def tryArr (ca : Option Addr) (cc : Nat) (ra : Option Addr) (rc : Nat) (wa : Option Addr) (wc : Nat) (ha : Option Addr) (hc : Nat) (x : TS) : Array Value :=
  #[.slice ca x.code.length cc, .int .i64 (x.regs.getD 0 0), .int .i64 (x.regs.getD 1 0), .int .i64 (x.regs.getD 2 0), .int .i64 (x.regs.getD 3 0), .int .i64 x.place, .int .i64 x.begun, .int .i64 x.valid,
    .slice ra x.reads.length rc, .slice wa x.writes.length wc, .slice ha x.held.length hc, .bool x.inGate, .int .i64 x.way]

/-- An attempt in memory. -/
structure TryR (B p eb xb : Nat) (w : World) (x : TS) : Prop where
  blk : ∃ ca cc ra rc wa wc ha hc, Blk w xb 130 (tryArr ca cc ra rc wa wc ha hc x) ∧ CodeIn w B ca x.code ∧ FarC B p eb ca x.code ∧
    w.ownsRow B 144 2 (.slice ra x.reads.length rc) x.reads.length (x.reads.flatMap entCells) ∧ w.ownsRow B 144 2 (.slice wa x.writes.length wc) x.writes.length (x.writes.flatMap entCells) ∧
    w.ownsRow B 3 1 (.slice ha x.held.length hc) x.held.length (x.held.map (.int .i64 ·)) ∧ (∀ k, (Value.slice ra x.reads.length rc).ownBlock = some k → (Value.slice wa x.writes.length wc).ownBlock ≠ some k)
  xB : B ≤ xb
  regs : x.regs.length = 4

theorem TryR.keep {chg : List TypeId} {B p eb xb : Nat} {w w' : World} {x : TS} (h : TryR B p eb xb w x) (hk : Kp chg B p eb w w') (h0 : 130 ∉ chg) (h1 : 144 ∉ chg) (h2 : 3 ∉ chg) : TryR B p eb xb w' x := by
  obtain ⟨ca, cc, ra, rc, wa, wc, ha, hc, hb, hcd, hcf, h3, h4, h5, h6⟩ := h.blk
  exact ⟨⟨ca, cc, ra, rc, wa, wc, ha, hc, hb.keep hk h0, hcd.keep hcf hk, hcf, ownsRow_keep h3 hk h1, ownsRow_keep h4 hk h1, ownsRow_keep h5 hk h2, h6⟩, h.xB, h.regs⟩

end Go.Proofs.Ytgdfmmfkdmhdgaa
